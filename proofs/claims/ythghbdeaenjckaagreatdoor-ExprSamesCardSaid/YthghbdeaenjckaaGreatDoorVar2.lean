import Derived.Test.YthghbdeaenjckaaGreatDoorEsc
namespace Go.Proofs.YthghbdeaenjckaaGreatDoor
open Go Go.RowKit
set_option maxHeartbeats 400000
theorem escape_any (s:ByteArray) (i p:Nat) (hp:p=i+1) (hi:p≤s.size) (hs:s.size≤4611686018427387904) (w:World):
  Calls Tryz.prog 78 #[.string s,.int .i64 p] w fun e w'=>e= .returned (resE i (stepEsc (s.data.toList.drop p)))∧Below w.heap.size w w':=by
 by_cases hlt:p<s.size
 ·by_cases hx:s[p]=120
  ·have hd:=drop_at s p hlt
   rw[hx] at hd;have e:=stepHex_eq (s.data.toList.drop (p+1));have ht:(s.data.toList.drop (p+1)).tail=s.data.toList.drop (p+2):=by simp
   rw[ht] at e;by_cases h1:lookH (s.data.toList.drop (p+1))<0
   ·rw[if_pos h1] at e
    refine(escape_hex1 s p hlt hs hx h1 w).mono fun e' w' ⟨he,hw⟩=>⟨?_,?_⟩
    ·rw[he,hd,stepEsc_x,e];simp only[resE];congr;omega
    ·rw[hw];exact Below.refl _ _
   ·rw[if_neg h1] at e
    have l1:=lookH_lt s (p+1) h1;have v1:hexD s[p+1]=lookH (s.data.toList.drop (p+1)):=(lookH_cons s (p+1) l1).symm;by_cases h2:lookH (s.data.toList.drop (p+2))<0
    ·rw[if_pos h2] at e
     refine(escape_hex2 s p l1 hs hx (by rw[v1];exact h1) h2 w).mono fun e' w' ⟨he,hw⟩=>⟨?_,?_⟩
     ·rw[he,hd,stepEsc_x,e];simp only[resE];congr;omega
     ·rw[hw];exact Below.refl _ _
    ·rw[if_neg h2] at e
     have l2:=lookH_lt s (p+2) h2;have v2:hexD s[p+2]=lookH (s.data.toList.drop (p+2)):=(lookH_cons s (p+2) l2).symm;refine(escape_hex3 s p l2 hs hx (by rw[v1];exact h1) (by rw[v2];exact h2) w).mono fun e' w' ⟨he,n,hw⟩=>⟨?_,?_⟩
     ·have b1:=lookH_bd (s.data.toList.drop (p+1))
      have b2:=lookH_bd (s.data.toList.drop (p+2));rw[he,hd,stepEsc_x,e,v1,v2];generalize lookH (s.data.toList.drop (p+1))=a at *;generalize lookH (s.data.toList.drop (p+2))=b at *
      have e:((UInt8.ofNat (a * 16+b).toNat).toNat:Int)=a * 16+b:=by
       rw[UInt8.toNat_ofNat'];omega
      simp only[resE,e];rfl
     ·rw[hw];exact below_drewN (Below.refl _ _) n
  ·cases hb:escD s[p] with
   | none=>exact escape_none s i p hp hlt hb hx w
   | some b=>exact escape_letter s i p hlt b hb hx w
 ·exact escape_end s i p hp (by omega) w
def resF (i:Nat):Step→Value
 | .bad k=> .tuple #[.string ⟨#[]⟩,.int .i64 (-1),.int .i64 ((i+k:Nat):Int)]
 | .var nm k=> .tuple #[.string ⟨nm.toArray⟩,.int .i64 ((k:Int) - 1),.int .i64 0]
 | _=> .tuple #[]
theorem ba_take (s:ByteArray) (a n:Nat):s.extract a (a+n)=⟨((s.data.toList.drop a).take n).toArray⟩:=by
 have h:=Lib.extract_data s a (a+n);rw[Nat.add_sub_cancel_left] at h;apply ByteArray.ext;apply Array.ext';exact h
theorem stepVar_eq (c:UInt8) (r:Bs):stepVar (c::r)=if c=123 then (if nameLen r=0 then .bad 2 else match r.drop (nameLen r) with
 | []=> .bad (2+nameLen r)
 | d::_=>if d=125 then .var (r.take (nameLen r)) (nameLen r+3) else .bad (2+nameLen r)) else .bad 1:=rfl
theorem variable_no (s:ByteArray) (p:Nat) (n:Int) (hn:(n != 123)=true)
  (K:∀ w,Calls Tryz.prog 76 #[.string s,.int .i64 p] w fun e w'=>e= .returned (.int .u8 n)∧w=w') (w:World):
  Calls Tryz.prog 77 #[.string s,.int .i64 p] w fun e w'=>e= .returned (.tuple #[.string ⟨#[]⟩,.int .i64 (-1),.int .i64 p])∧w=w':=by
 have K:=Lib.hid K;go_enter Tryz.func77,Tryz.ntmps77;go_wp2_with (go_at_call 76;((with_reducible refine(K.out _).mono ?_));rintro e w' ⟨rfl,rfl⟩)
 go_ret3
 exact⟨rfl,rfl⟩
theorem variable_first (s:ByteArray) (p:Nat) (hp:p<s.size) (hs:s.size≤4611686018427387904) (h123:s[p]=123) (h:nameLen (s.data.toList.drop (p+1))=0) (w:World):
  Calls Tryz.prog 77 #[.string s,.int .i64 p] w fun e w'=>e= .returned (.tuple #[.string ⟨#[]⟩,.int .i64 (-1),.int .i64 ((p:Int)+1)])∧w=w':=by
 have K:=Lib.hid fun w=>at_is s p hp 123 (by rw[h123];rfl) w
 clear h123;by_cases h1:p+1<s.size
 ·obtain⟨n,hn⟩:∃ n:Int,n=(s[p+1].toNat:Int):=⟨_,rfl⟩
  have K1:Hid (∀ w,Calls Tryz.prog 76 #[.string s,.int .i64 ((p:Int)+1)] w fun e w'=>e= .returned (.int .u8 n)∧w=w'):=Lib.hid fun w=>at_is s (p+1) h1 n hn w
  have K2:=Lib.hid fun w=>small_no s[p+1] w
  rw[drop_at s (p+1) h1,nameLen_cons] at h
  have hd:isDig s[p+1]=false:=by
   cases hd:isDig s[p+1] with
   | false=>rfl
   | true=>rw[hd] at h;simp at h
  have hl:isLow s[p+1]=false:=by
   cases hl:isLow s[p+1] with
   | false=>rfl
   | true=>rw[hd,hl] at h;simp at h
  rw[hl,←hn] at K2;have hx:¬ (48≤n∧n≤57):=by rw[hn];simpa[isDig] using hd
  have hx2:(n<48∧decide (n≤57)=true)∨(48≤n∧decide (n≤57)=false):=by simp;omega
  clear h hd hl hx hn
  rcases hx2 with ⟨hx2,hx3⟩ | ⟨hx2,hx3⟩
  all_goals
   go_enter Tryz.func77,Tryz.ntmps77;go_wp2_with (first | (go_at_call 76;(first | ((with_reducible refine(K.out _).mono ?_);rintro e w' ⟨rfl,rfl⟩) | ((with_reducible refine(K1.out _).mono ?_);rintro e w' ⟨rfl,rfl⟩))) | (go_at_call 43;((with_reducible refine(K2.out _).mono ?_));rintro e w' ⟨rfl,rfl⟩))
   go_ret3
   exact⟨rfl,rfl⟩
 ·have K1:Hid (∀ w,Calls Tryz.prog 76 #[.string s,.int .i64 ((p:Int)+1)] w fun e w'=>e= .returned (.int .u8 0)∧w=w'):=Lib.hid fun w=>at_ge s (p+1) h1 w
  clear h;go_enter Tryz.func77,Tryz.ntmps77;go_wp2_with (go_at_call 76;(first | ((with_reducible refine(K.out _).mono ?_);rintro e w' ⟨rfl,rfl⟩) | ((with_reducible refine(K1.out _).mono ?_);rintro e w' ⟨rfl,rfl⟩)))
  go_ret3
  exact⟨rfl,rfl⟩
def EndV (s:ByteArray) (p N:Nat) (x:Int) (w:World) (e:Ending) (w':World):Prop:=
 e= .returned (if x=125 then .tuple #[.string (s.extract (p+1) (p+1+N)),.int .i64 ((N:Int)+2),.int .i64 0] else .tuple #[.string ⟨#[]⟩,.int .i64 (-1),.int .i64 ((p:Int)+1+N)])∧w=w'
theorem ret_vno {a b c d:Int} (h:a=b) (g:c=d):Ending.returned (.tuple #[.string ⟨#[]⟩,.int .i64 a,.int .i64 c])= .returned (.tuple #[.string ⟨#[]⟩,.int .i64 b,.int .i64 d]):=by rw[h,g]
theorem ret_vyes {a b:ByteArray} {c d:Int} (h:a=b) (g:c=d):Ending.returned (.tuple #[.string a,.int .i64 c,.int .i64 0])= .returned (.tuple #[.string b,.int .i64 d,.int .i64 0]):=by rw[h,g]
theorem variable_digit (s:ByteArray) (p:Nat) (hp:p+1<s.size) (hs:s.size≤4611686018427387904) (h123:s[p]=123) (h:isDig s[p+1]=true) (x:Int)
  (KX:∀ w,Calls Tryz.prog 76 #[.string s,.int .i64 ((p:Int)+2)] w fun e w'=>e= .returned (.int .u8 x)∧w=w') (w:World):
  Calls Tryz.prog 77 #[.string s,.int .i64 p] w (EndV s p 1 x w):=by
 have K:=Lib.hid fun w=>at_is s p (by omega) 123 (by rw[h123];rfl) w
 have KX:=Lib.hid KX;clear h123;obtain⟨n,hn⟩:∃ n:Int,n=(s[p+1].toNat:Int):=⟨_,rfl⟩;have K1:Hid (∀ w,Calls Tryz.prog 76 #[.string s,.int .i64 ((p:Int)+1)] w fun e w'=>e= .returned (.int .u8 n)∧w=w'):=Lib.hid fun w=>at_is s (p+1) hp n hn w
 have K2:=Lib.hid fun w=>small_no s[p+1] w
 have hl:=dig_low _ h;rw[hl,←hn] at K2;have hx:48≤n∧n≤57:=by rw[hn];simpa[isDig] using h
 obtain⟨x1,x2⟩:=hx;clear hl h hn;by_cases hx:x=125
 ·subst hx
  go_enter Tryz.func77,Tryz.ntmps77;go_wp2_with (first | (go_at_call 76;(first | ((with_reducible refine(K.out _).mono ?_);rintro e w' ⟨rfl,rfl⟩) | ((with_reducible refine(K1.out _).mono ?_);rintro e w' ⟨rfl,rfl⟩) | ((with_reducible refine(KX.out _).mono ?_);rintro e w' ⟨rfl,rfl⟩))) | (go_at_call 43;((with_reducible refine(K2.out _).mono ?_));rintro e w' ⟨rfl,rfl⟩))
  go_ret3
  exact⟨by rw[if_pos rfl];exact ret_vyes rfl (by omega),rfl⟩
 ·have hx1:(x != 125)=true:=by simpa using hx
  have hx3:(x==125)=false:=by simpa using hx
  go_enter Tryz.func77,Tryz.ntmps77;go_wp2_with (first | (go_at_call 76;(first | ((with_reducible refine(K.out _).mono ?_);rintro e w' ⟨rfl,rfl⟩) | ((with_reducible refine(K1.out _).mono ?_);rintro e w' ⟨rfl,rfl⟩) | ((with_reducible refine(KX.out _).mono ?_);rintro e w' ⟨rfl,rfl⟩))) | (go_at_call 43;((with_reducible refine(K2.out _).mono ?_));rintro e w' ⟨rfl,rfl⟩))
  go_ret3
  exact⟨by rw[if_neg hx];exact ret_vno rfl (by omega),rfl⟩
theorem variable_low (s:ByteArray) (p N:Nat) (hp:p+1<s.size) (hs:s.size≤4611686018427387904) (h123:s[p]=123) (h:isLow s[p+1]=true) (hN:N=tk 7 (s.data.toList.drop (p+2))+1) (x:Int)
  (KX:∀ (a:Int),a=(p:Int)+1+N→∀ w,Calls Tryz.prog 76 #[.string s,.int .i64 a] w fun e w'=>e= .returned (.int .u8 x)∧w=w') (w:World):
  Calls Tryz.prog 77 #[.string s,.int .i64 p] w (EndV s p N x w):=by
 have K:=Lib.hid fun w=>at_is s p (by omega) 123 (by rw[h123];rfl) w
 have KX:=Lib.hid KX;clear h123;obtain⟨n,hn⟩:∃ n:Int,n=(s[p+1].toNat:Int):=⟨_,rfl⟩;have K1:Hid (∀ w,Calls Tryz.prog 76 #[.string s,.int .i64 ((p:Int)+1)] w fun e w'=>e= .returned (.int .u8 n)∧w=w'):=Lib.hid fun w=>at_is s (p+1) hp n hn w
 have K2:=Lib.hid fun w=>small_no s[p+1] w
 rw[h,←hn] at K2;have HN:=Lib.hid hN;clear h hn hN;have hdz:decide (s.size≤p+1)=false:=by simp;omega
 have hdy:decide ((s.size:Int)≤(p:Int)+1)=false:=by simp;omega
 go_enter Tryz.func77,Tryz.ntmps77;go_wp2_with (first | (go_at_call 76;(first | ((with_reducible refine(K.out _).mono ?_);rintro e w' ⟨rfl,rfl⟩) | ((with_reducible refine(K1.out _).mono ?_);rintro e w' ⟨rfl,rfl⟩))) | (go_at_call 43;((with_reducible refine(K2.out _).mono ?_));rintro e w' ⟨rfl,rfl⟩))
 go_loop [8] (fun v=>∃ k:Nat,p+2≤k∧k≤p+9∧k≤s.size∧v= .int .i64 k∧N=tk (p+9 - k) (s.data.toList.drop k)+(k - (p+1))) (fun v=>p+9 - (intOf v).toNat)
 case atStart=>exact⟨p+2,by omega,by omega,by omega,by go_num,by rw[HN.out,show p+9 - (p+2)=7 by omega,show p+2 - (p+1)=1 by omega]⟩
 case round=>
  obtain⟨k,k1,k9,hk,rfl,hn⟩:=hrel;have HK:=Lib.hid hn;clear hn;by_cases a:k<s.size
  ·by_cases b:k<p+9
   ·have KI:=Lib.hid fun w=>small_yes s[k] w
    have hd:=drop_at s k a;by_cases c:isIn s[k]=true
    ·rw[c] at KI
     have HX:Hid (N=tk (p+9 - (k+1)) (s.data.toList.drop (k+1))+(k+1 - (p+1))):=by
      apply Lib.hid;rw[HK.out,hd,show p+9 - k=(p+9 - (k+1))+1 by omega,tk_cons,if_pos c];omega
     clear hd c;go_wp2_with (go_at_call 43;((with_reducible refine(KI.out _).mono ?_));rintro e w' ⟨rfl,rfl⟩)
     go_round
     case rel=>exact⟨k+1,by omega,by omega,by omega,by go_num,HX.out⟩
     case measure=>simp[intOf];omega
    ·rw[Bool.eq_false_iff.2 c] at KI
     have HX:Hid (k=p+1+N):=by
      apply Lib.hid;have h2:=HK.out;rw[hd,show p+9 - k=(p+9 - (k+1))+1 by omega,tk_cons,if_neg c] at h2;omega
     have KE:=Lib.hid (KX.out k (by have:=HX.out;omega));clear hd c;by_cases hx:x=125
     ·subst hx
      go_wp2_with (first | (go_at_call 43;((with_reducible refine(KI.out _).mono ?_));rintro e w' ⟨rfl,rfl⟩) | (go_at_call 76;((with_reducible refine(KE.out _).mono ?_));rintro e w' ⟨rfl,rfl⟩))
      go_ret3
      exact⟨by rw[if_pos rfl,←HX.out];exact ret_vyes rfl (by have:=HX.out;omega),rfl⟩
     ·have hx1:(x != 125)=true:=by simpa using hx
      go_wp2_with (first | (go_at_call 43;((with_reducible refine(KI.out _).mono ?_));rintro e w' ⟨rfl,rfl⟩) | (go_at_call 76;((with_reducible refine(KE.out _).mono ?_));rintro e w' ⟨rfl,rfl⟩))
      go_ret3
      exact⟨by rw[if_neg hx];exact ret_vno rfl (by have:=HX.out;omega),rfl⟩
   ·have HX:Hid (k=p+1+N):=by
     apply Lib.hid;have h2:=HK.out;rw[show p+9 - k=0 by omega] at h2;simp[tk] at h2;omega
    have KE:=Lib.hid (KX.out k (by have:=HX.out;omega));by_cases hx:x=125
    ·subst hx
     go_wp2_with (go_at_call 76;((with_reducible refine(KE.out _).mono ?_));rintro e w' ⟨rfl,rfl⟩)
     go_ret3
     exact⟨by rw[if_pos rfl,←HX.out];exact ret_vyes rfl (by have:=HX.out;omega),rfl⟩
    ·have hx1:(x != 125)=true:=by simpa using hx
     go_wp2_with (go_at_call 76;((with_reducible refine(KE.out _).mono ?_));rintro e w' ⟨rfl,rfl⟩)
     go_ret3
     exact⟨by rw[if_neg hx];exact ret_vno rfl (by have:=HX.out;omega),rfl⟩
  ·have HX:Hid (k=p+1+N):=by
    apply Lib.hid;have h2:=HK.out;rw[drop_end s k a] at h2;have:tk (p+9 - k) []=0:=by cases p+9 - k <;> simp[tk]
    omega
   have KE:=Lib.hid (KX.out k (by have:=HX.out;omega));by_cases hx:x=125
   ·subst hx
    go_wp2_with (go_at_call 76;((with_reducible refine(KE.out _).mono ?_));rintro e w' ⟨rfl,rfl⟩)
    go_ret3
    exact⟨by rw[if_pos rfl,←HX.out];exact ret_vyes rfl (by have:=HX.out;omega),rfl⟩
   ·have hx1:(x != 125)=true:=by simpa using hx
    go_wp2_with (go_at_call 76;((with_reducible refine(KE.out _).mono ?_));rintro e w' ⟨rfl,rfl⟩)
    go_ret3
    exact⟨by rw[if_neg hx];exact ret_vno rfl (by have:=HX.out;omega),rfl⟩
theorem at_end (s:ByteArray) (k:Nat) (x:Int) (hx:x=match s.data.toList.drop k with | []=>0 | d::_=>(d.toNat:Int)) (a:Int) (ha:a=k) (w:World):
  Calls Tryz.prog 76 #[.string s,.int .i64 a] w fun e w'=>e= .returned (.int .u8 x)∧w=w':=by
 rw[ha];by_cases h:k<s.size
 ·rw[drop_at s k h] at hx
  exact at_is s k h x hx w
 ·rw[drop_end s k h] at hx
  rw[hx];exact at_ge s k h w
theorem variable_any (s:ByteArray) (i p:Nat) (hpi:p=i+1) (hs:s.size≤4611686018427387904) (w:World):
  Calls Tryz.prog 77 #[.string s,.int .i64 p] w fun e w'=>e= .returned (resF i (stepVar (s.data.toList.drop p)))∧w=w':=by
 by_cases hlt:p<s.size
 ·have hd:=drop_at s p hlt
  by_cases h123:s[p]=123
  ·rw[hd,stepVar_eq,if_pos h123]
   by_cases h0:nameLen (s.data.toList.drop (p+1))=0
   ·rw[if_pos h0]
    refine(variable_first s p hlt hs h123 h0 w).mono fun e w' ⟨he,hw⟩=>⟨?_,hw⟩
    rw[he];simp only[resF];congr;omega
   ·rw[if_neg h0]
    obtain⟨N,hN⟩:∃ N,N=nameLen (s.data.toList.drop (p+1)):=⟨_,rfl⟩;rw[←hN] at h0 ⊢
    have h1:p+1<s.size:=by
     by_cases h1:p+1<s.size
     ·exact h1
     ·rw[drop_end s (p+1) h1] at hN;exact absurd hN h0
    have e2:(s.data.toList.drop (p+1)).drop N=s.data.toList.drop (p+1+N):=by rw[List.drop_drop]
    rw[e2];obtain⟨x,hx⟩:∃ x:Int,x=match s.data.toList.drop (p+1+N) with | []=>0 | d::_=>(d.toNat:Int):=⟨_,rfl⟩
    have KX:=at_end s (p+1+N) x hx
    have main:Calls Tryz.prog 77 #[.string s,.int .i64 p] w (EndV s p N x w):=by
     have hd1:=drop_at s (p+1) h1;rw[hd1,nameLen_cons] at hN;by_cases a:isDig s[p+1]=true
     ·rw[if_pos a] at hN
      subst hN;exact variable_digit s p h1 hs h123 a x (fun w=>KX _ (by omega) w) w
     ·rw[if_neg a] at hN
      by_cases b:isLow s[p+1]=true
      ·rw[if_pos b] at hN
       exact variable_low s p N h1 hs h123 b hN x (fun a ha w=>KX a (by omega) w) w
      ·rw[if_neg b] at hN;exact absurd hN h0
    refine main.mono fun e w' ⟨he,hw⟩=>⟨?_,hw⟩
    rw[he]
    cases hr:s.data.toList.drop (p+1+N) with
    | nil=>
      rw[hr] at hx;rw[if_neg (by rw[hx];decide)];simp only[resF];congr;omega
    | cons d t=>
      rw[hr] at hx;by_cases hd125:d=125
      ·rw[if_pos (by rw[hx,hd125];rfl)]
       simp only[if_pos hd125,resF];rw[ba_take];exact ret_vyes rfl (by omega)
      ·rw[if_neg (by rw[hx];intro e;apply hd125;rw[←UInt8.toNat_inj];show d.toNat=125;simp only at e;omega)]
       simp only[if_neg hd125,resF];congr;omega
  ·have hn:((s[p].toNat:Int) != 123)=true:=by
    have:=byte_ne (n:=123) h123 (by omega);simp only[bne];simpa using this
   rw[hd,stepVar_eq,if_neg h123];refine(variable_no s p _ hn (at_lt s p hlt) w).mono fun e w' ⟨he,hw⟩=>⟨?_,hw⟩
   rw[he,hpi];rfl
 ·rw[drop_end s p hlt]
  refine(variable_no s p 0 (by decide) (at_ge s p hlt) w).mono fun e w' ⟨he,hw⟩=>⟨?_,hw⟩
  rw[he,hpi];rfl
theorem clone_any (s:ByteArray) (hs:s.size≤281474976710656) (w:World):
  Calls Tryz.prog 34 #[.string s] w fun e w'=>e= .returned (.string s)∧Below w.heap.size w w':=by
 have K:=Lib.hid fun w=>Tryz.stringslite_Clone s w hs
 go_enter Tryz.func34,Tryz.ntmps34;go_wp2_with (go_at_call 62;((with_reducible refine(K.out _).mono ?_));rintro e w' ⟨rfl,hb⟩);go_ret;exact⟨rfl,hb⟩
end Go.Proofs.YthghbdeaenjckaaGreatDoor
