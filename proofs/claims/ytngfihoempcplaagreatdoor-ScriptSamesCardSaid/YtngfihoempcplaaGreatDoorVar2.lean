import Derived.Test.YtngfihoempcplaaGreatDoorEsc
namespace Go.Proofs.YtngfihoempcplaaGreatDoor
open Go Go.RowKit
theorem ba_take (s:ByteArray) (a n:Nat):s.extract a (a+n)=⟨((s.data.toList.drop a).take n).toArray⟩:=by
 have h:=Lib.extract_data s a (a+n);rw[Nat.add_sub_cancel_left] at h;apply ByteArray.ext;apply Array.ext';exact h
theorem stepVar_eq (c:UInt8) (r:Bs):stepVar (c::r)=if c=123 then (if nameLen r=0 then .bad 2 else match r.drop (nameLen r) with
 | []=> .bad (2+nameLen r)
 | d::_=>if d=125 then .var (r.take (nameLen r)) (nameLen r+3) else .bad (2+nameLen r)) else .bad 1:=rfl
theorem clone_any (s:ByteArray) (hs:s.size≤281474976710656) (w:World):
  Calls Tryz.prog 89 #[.string s] w fun e w'=>e= .returned (.string s)∧Below w.heap.size w w':=by
 have K:=Lib.hid fun w=>Tryz.stringslite_Clone s w hs
 go_enter Tryz.func89,Tryz.ntmps89;go_wp2_with (go_at_call 118;((with_reducible refine(K.out _).mono ?_));rintro e w' ⟨rfl,hb⟩);go_ret;exact⟨rfl,hb⟩
def resV (i:Nat):Step→Value
 | .bad k=> .tuple #[.string ⟨#[]⟩,.int .i64 ((i+k:Nat):Int),.bool false]
 | .var nm k=> .tuple #[.string ⟨nm.toArray⟩,.int .i64 ((i+k:Nat):Int),.bool true]
 | _=> .tuple #[]
theorem ext_size (s:ByteArray) (a b:Nat) (hb:b≤s.size):(s.extract a b).size=b - a:=by
 have h:=congrArg List.length (Lib.extract_data s a b);rw[len_data,List.length_take,List.length_drop,len_data] at h;omega
theorem trip_eq {x:ByteArray} {y:Bool} {a b:Int} (h:a=b):Value.tuple #[.string x,.int .i64 a,.bool y]= .tuple #[.string x,.int .i64 b,.bool y]:=by rw[h]
theorem readvar_short (s:ByteArray) (i:Nat) (hi:i+1=s.size) (hs:s.size≤4611686018427387904) (w:World):
  Calls Tryz.prog 123 #[.string s,.int .i64 i] w fun e w'=>e= .returned (.tuple #[.string ⟨#[]⟩,.int .i64 ((i:Int)+1),.bool false])∧w=w':=by
 go_enter Tryz.func123,Tryz.ntmps123;go_wp2
 go_ret3
 exact⟨rfl,rfl⟩
theorem readvar_open (s:ByteArray) (i:Nat) (hi:i+1<s.size) (hs:s.size≤4611686018427387904) (h:s[i+1]≠123) (w:World):
  Calls Tryz.prog 123 #[.string s,.int .i64 i] w fun e w'=>e= .returned (.tuple #[.string ⟨#[]⟩,.int .i64 ((i:Int)+1),.bool false])∧w=w':=by
 have h1:((s[i+1].toNat:Int) != 123)=true:=by
  have:=byte_ne (n:=123) h (by omega);simp only[bne];simpa using this
 clear h;go_enter Tryz.func123,Tryz.ntmps123;go_wp2
 go_ret3
 exact⟨rfl,rfl⟩
theorem readvar_rest (s:ByteArray) (i n:Nat) (hi:i+1<s.size) (hs:s.size≤4611686018427387904) (h:s[i+1]=123) (hn:n=nameLen (s.data.toList.drop (i+2))) (w:World):
  Calls Tryz.prog 123 #[.string s,.int .i64 i] w fun e w'=>e= .returned (resV i (stepVar (s.data.toList.drop (i+1))))∧Below w.heap.size w w':=by
 have h1:((s[i+1].toNat:Int) != 123)=false:=by
  have:=byte_eq (n:=123) h (by omega);simp only[bne];simpa using this
 have hd:s.data.toList.drop (i+1)=123::s.data.toList.drop (i+2):=by rw[drop_at s (i+1) hi,h]
 rw[hd,stepVar_eq,if_pos rfl,←hn,List.drop_drop];have hle:=(nameLen_le (s.data.toList.drop (i+2)));rw[←hn,List.length_drop,len_data] at hle;obtain⟨hle,hn8⟩:=hle
 have e2:(s.extract (i+2) s.size).data.toList=s.data.toList.drop (i+2):=by
  rw[Lib.extract_data,List.take_of_length_le (by rw[List.length_drop,len_data];omega)]
 have hsz:=ext_size s (i+2) s.size (Nat.le_refl _);have K1:=Lib.hid fun w=>namebytes_any (s.extract (i+2) s.size) (by omega) w
 rw[e2,←hn] at K1;clear h e2 hsz;by_cases h0:n=0
 ·rw[if_pos h0]
  have HR:Hid (resV i (.bad 2)= .tuple #[.string ⟨#[]⟩,.int .i64 ((i:Int)+2),.bool false]):=by apply Lib.hid;rfl
  rw[HR.out];subst h0;clear hd hn;go_enter Tryz.func123,Tryz.ntmps123;go_wp2_with (go_at_call 130;((with_reducible refine(K1.out _).mono ?_));rintro e w' ⟨rfl,rfl⟩)
  go_ret3
  exact⟨rfl,Below.refl _ _⟩
 ·rw[if_neg h0]
  have hb:(((i:Int)+2+n)==(i:Int)+2)=false:=by simp;omega
  have hb2:((i+2+n)==i+2)=false:=by simp;omega
  have hb3:((n:Int)==0)=false:=by simp;omega
  by_cases hlt:i+2+n<s.size
  ·rw[drop_at s (i+2+n) hlt]
   have hc:(((i:Int)+2+n)==(s.size:Int))=false:=by simp;omega
   by_cases h125:s[i+2+n]=125
   ·simp only[h125,if_true]
    have hx:((s[i+2+n].toNat:Int) != 125)=false:=by
     have:=byte_eq (n:=125) h125 (by omega);simp only[bne];simpa using this
    have hl2:=ext_size s (i+2) (i+2+n) (by omega);have K2:=Lib.hid fun w=>clone_any (s.extract (i+2) (i+2+n)) (by omega) w
    have HR:Hid (resV i (.var ((s.data.toList.drop (i+2)).take n) (n+3))= .tuple #[.string (s.extract (i+2) (i+2+n)),.int .i64 ((i:Int)+2+n+1),.bool true]):=by
     apply Lib.hid;rw[ba_take];exact trip_eq (by omega)
    rw[HR.out];clear hd hn h125 hl2;go_enter Tryz.func123,Tryz.ntmps123;go_wp2_with (first | (go_at_call 130;((with_reducible refine(K1.out _).mono ?_));rintro e w' ⟨rfl,rfl⟩) | (go_at_call 89;((with_reducible refine(K2.out _).mono ?_));rintro e w' ⟨rfl,hbw⟩))
    go_ret3
    exact⟨rfl,hbw⟩
   ·simp only[if_neg h125]
    have hx:((s[i+2+n].toNat:Int) != 125)=true:=by
     have:=byte_ne (n:=125) h125 (by omega);simp only[bne];simpa using this
    have HR:Hid (resV i (.bad (2+n))= .tuple #[.string ⟨#[]⟩,.int .i64 ((i:Int)+2+n),.bool false]):=by apply Lib.hid;exact trip_eq (by omega)
    rw[HR.out];clear hd hn h125;go_enter Tryz.func123,Tryz.ntmps123;go_wp2_with (go_at_call 130;((with_reducible refine(K1.out _).mono ?_));rintro e w' ⟨rfl,rfl⟩)
    go_ret3
    exact⟨rfl,Below.refl _ _⟩
  ·rw[drop_end s (i+2+n) hlt]
   have hc:(((i:Int)+2+n)==(s.size:Int))=true:=by simp;omega
   have HR:Hid (resV i (.bad (2+n))= .tuple #[.string ⟨#[]⟩,.int .i64 ((i:Int)+2+n),.bool false]):=by apply Lib.hid;exact trip_eq (by omega)
   simp only;rw[HR.out];clear hd hn;go_enter Tryz.func123,Tryz.ntmps123;go_wp2_with (go_at_call 130;((with_reducible refine(K1.out _).mono ?_));rintro e w' ⟨rfl,rfl⟩)
   go_ret3
   exact⟨rfl,Below.refl _ _⟩
theorem readvar_any (s:ByteArray) (i:Nat) (hi:i<s.size) (hs:s.size≤4611686018427387904) (w:World):
  Calls Tryz.prog 123 #[.string s,.int .i64 i] w fun e w'=>e= .returned (resV i (stepVar (s.data.toList.drop (i+1))))∧Below w.heap.size w w':=by
 by_cases h1:i+1<s.size
 ·by_cases h:s[i+1]=123
  ·exact readvar_rest s i _ h1 hs h rfl w
  ·refine(readvar_open s i h1 hs h w).mono fun e w' ⟨he,hw⟩=>⟨?_,by rw[hw];exact Below.refl _ _⟩
   rw[he,drop_at s (i+1) h1,stepVar_eq,if_neg h];rfl
 ·refine(readvar_short s i (by omega) hs w).mono fun e w' ⟨he,hw⟩=>⟨?_,by rw[hw];exact Below.refl _ _⟩
  rw[he,drop_end s (i+1) h1];rfl
end Go.Proofs.YtngfihoempcplaaGreatDoor
