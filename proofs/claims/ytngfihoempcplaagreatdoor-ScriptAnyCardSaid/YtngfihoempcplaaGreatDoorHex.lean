import Derived.Deep.QuietTactic
import Derived.BigQuiet
import Derived.Test.YtngfihoempcplaaGreatDoorCf
import Derived.Test.YtngfihoempcplaaGreatDoorBytes2
namespace Go.Proofs.YtngfihoempcplaaGreatDoor
open Go Go.RowKit
def lookH (r:Bs):Int:=match r with
 | []=> -1
 | c::_=>hexD c
theorem x2i (r:Bs):lookB hexSet r=lookH r:=by
 cases r with
 | nil=>rfl
 | cons c r=>exact x3t c
theorem z6f (r:Bs): -1≤lookH r∧lookH r≤15:=by
 cases r with
 | nil=>exact⟨by decide,by decide⟩
 | cons c r=>exact y3k c
theorem z5y (r:Bs):stepHex r=if lookH r<0 then .bad 2 else if lookH r.tail<0 then .bad 3 else .byte (UInt8.ofNat (lookH r * 16+lookH r.tail).toNat) 4:=by
 cases r with
 | nil=>rfl
 | cons c r=>
   cases r with
   | nil=>unfold stepHex;simp[lookH]
   | cons d r=>rfl
def resS (i:Nat):Step→Value
 | .bad k=> .tuple #[.int .u8 0,iI ((i+k:Nat):Int),.bool false]
 | .byte b k=> .tuple #[.int .u8 b.toNat,iI ((i+k:Nat):Int),.bool true]
 | _=> .tuple #[]
theorem x5a (v u:Int) (h1:¬ v<0) (h2:v≤15) (h3:¬ u<0) (h4:u≤15):bits .or .i64 (v * 16) u % 256=v * 16+u:=by
 have H:∀ a:Nat,a<16→∀ b:Nat,b<16→bits .or .i64 ((a:Int) * 16) (b:Int) % 256=(a:Int) * 16+b:=by decide+kernel
 have:=H v.toNat (by omega) u.toNat (by omega);rwa [Int.toNat_of_nonneg (by omega),Int.toNat_of_nonneg (by omega)] at this
theorem y71 {k l:IntKind} {a b c d:Int} {x y:Bool} (h:a=b) (g:c=d) (i:x=y):Ending.returned (.tuple #[.int k a,.int l c,.bool x])= .returned (.tuple #[.int k b,.int l d,.bool y]):=by rw[h,g,i]
theorem y43 (s:BA) (i:Nat) (a:Int) (ha:a=i) (hi:i≤s.size) (v:Int) (hv:v=lookH (s.data.toList.drop i)) (w:World):
  Cz 169 #[.string ⟨#[48,49,50,51,52,53,54,55,56,57,97,98,99,100,101,102]⟩,s,a] w fun e w'=>e= .returned (.int .i64 v)∧w=w':=by
 rw[hv,←x2i,ha];exact z69 hexSet s i hi w
theorem z9x (s:BA) (i:Nat) (h:¬ lookH (s.data.toList.drop i)<0):i<s.size:=by
 by_cases hlt:i<s.size
 ·exact hlt
 ·rw[z07 s i hlt] at h;exact absurd (show lookH []<0 by decide) h
theorem y3z (s:BA) (i:Nat) (a:Int) (ha:a=(i:Int)+2) (hi:i+2≤s.size) (hs:s.size≤4611686018427387904) (w:World):
  Cz 168 #[s,a] w fun e w'=>e= .returned (resS i (stepHex (s.data.toList.drop (i+2))))∧w=w':=by
 rw[z5y];have ht:(s.data.toList.drop (i+2)).tail=s.data.toList.drop (i+3):=by simp
 rw[ht];have b1:=z6f (s.data.toList.drop (i+2));have b2:=z6f (s.data.toList.drop (i+3));have hlt:=z9x s (i+2);obtain⟨v,hv⟩:∃ v,v=lookH (s.data.toList.drop (i+2)):=⟨_,rfl⟩;obtain⟨u,hu⟩:∃ u,u=lookH (s.data.toList.drop (i+3)):=⟨_,rfl⟩;have K1:=zz fun w=>y43 s (i+2) a (by omega) hi v hv w
 rw[←hv,←hu];rw[←hv] at b1 hlt;rw[←hu] at b2;obtain⟨b11,b12⟩:=b1;obtain⟨b21,b22⟩:=b2;clear hv ht;have a0:0≤a:=by omega
 have a1:a≤4611686018427387904:=by omega
 by_cases h1:v<0
 ·have HR:Hid (resS i (if v<0 then .bad 2 else if u<0 then .bad 3 else .byte (UInt8.ofNat (v * 16+u).toNat) 4)= .tuple #[.int .u8 0,a,.bool false]):=by
   apply Lib.hid;rw[if_pos h1,ha];rfl
  rw[HR.out];clear hlt hu ha;go_enter Tryz.func168,Tryz.ntmps168;go_wp2_with (go_at_call 169;((with_reducible refine(K1.out _).mono ?_));rintro e w' ⟨rfl,rfl⟩)
  go_ret3
  exact⟨rfl,rfl⟩
 ·have hi3:i+3≤s.size:=hlt h1
  have K2:=zz fun w=>y43 s (i+3) (a+1) (by omega) hi3 u hu w
  by_cases h2:u<0
  ·have HR:Hid (resS i (if v<0 then .bad 2 else if u<0 then .bad 3 else .byte (UInt8.ofNat (v * 16+u).toNat) 4)= .tuple #[.int .u8 0,iI (a+1),.bool false]):=by
    apply Lib.hid;rw[if_neg h1,if_pos h2,ha];simp[resS];omega
   rw[HR.out];clear hlt hu ha;go_enter Tryz.func168,Tryz.ntmps168;go_wp2_with (go_at_call 169;first | ((with_reducible refine(K1.out _).mono ?_);rintro e w' ⟨rfl,rfl⟩) | ((with_reducible refine(K2.out _).mono ?_);rintro e w' ⟨rfl,rfl⟩))
   go_ret3
   exact⟨rfl,rfl⟩
  ·have HR:Hid (resS i (if v<0 then .bad 2 else if u<0 then .bad 3 else .byte (UInt8.ofNat (v * 16+u).toNat) 4)= .tuple #[.int .u8 (v * 16+u),iI (a+2),.bool true]):=by
    apply Lib.hid;rw[if_neg h1,if_neg h2,ha]
    have e:((UInt8.ofNat (v * 16+u).toNat).toNat:Int)=v * 16+u:=by
     rw[UInt8.toNat_ofNat'];omega
    simp only[resS,e];congr
   rw[HR.out];clear hlt hu ha;go_enter Tryz.func168,Tryz.ntmps168;go_wp2_with (go_at_call 169;first | ((with_reducible refine(K1.out _).mono ?_);rintro e w' ⟨rfl,rfl⟩) | ((with_reducible refine(K2.out _).mono ?_);rintro e w' ⟨rfl,rfl⟩))
   go_ret3
   exact⟨y71 (x5a v u (by omega) b12 (by omega) b22) rfl rfl,rfl⟩
theorem x0m:∀ c:UInt8,(escD c=none∧Lib.indexByte letSet.data.toList c= -1)∨(escD c=some 10∧Lib.indexByte letSet.data.toList c=0)∨(escD c=some 13∧Lib.indexByte letSet.data.toList c=1)∨
  (escD c=some 9∧Lib.indexByte letSet.data.toList c=2)∨(escD c=some 34∧Lib.indexByte letSet.data.toList c=3)∨(escD c=some 92∧Lib.indexByte letSet.data.toList c=4)∨(escD c=some 36∧Lib.indexByte letSet.data.toList c=5):=
 z5c _ (by decide+kernel)
theorem y5d (s:BA) (i:Nat) (hi:i≤s.size) (v:Int) (hv:lookB letSet (s.data.toList.drop i)=v) (w:World):
  Cz 169 #[.string ⟨#[110,114,116,34,92,36]⟩,s,i] w fun e w'=>e= .returned (.int .i64 v)∧w=w':=by
 rw[←hv];exact z69 letSet s i hi w
theorem z08 {a:UInt8} {n:Nat} (h:a=UInt8.ofNat n) (hn:n<256):((a.toNat:Int)==n)=true:=by
 subst h;simp;omega
theorem z0s {a:UInt8} {n:Nat} (h:a≠UInt8.ofNat n) (hn:n<256):((a.toNat:Int)==n)=false:=by
 simp only[beq_eq_false_iff_ne,ne_eq];intro e;apply h;rw[←UInt8.toNat_inj,UInt8.toNat_ofNat'];omega
theorem z8n {c:UInt8} {t:Bs} (hc:c≠120) (h:escD c=none):stepEsc (c::t)= .bad 1:=by
 unfold stepEsc;simp[hc,h]
theorem y24 (s:BA) (i p:Nat) (hp:p=i+1) (hi:p≤s.size) (hs:s.size≤4611686018427387904) (w:World):
  Cz 146 #[s,p] w fun e w'=>e= .returned (resS i (stepEsc (s.data.toList.drop p)))∧w=w':=by
 by_cases hlt:p<s.size
 ·obtain⟨c,hc⟩:∃ c,c=s[p]:=⟨_,rfl⟩
  have hd:=z0h s p hlt;rw[←hc] at hd;by_cases hx:c=120
  ·have hx1:((s[p].toNat:Int)==120)=true:=z08 (n:=120) (by rw[←hc];exact hx) (by omega)
   have K:=zz fun w=>y3z s i ((p:Int)+1) (by omega) (by omega) hs w
   obtain⟨v,hv⟩:∃ v,v=resS i (stepHex (s.data.toList.drop (i+2))):=⟨_,rfl⟩;have e:resS i (stepEsc (s.data.toList.drop p))=v:=by rw[hv,hd,hx];unfold stepEsc;rw[hp];rfl
   rw[e];rw[←hv] at K
   have HV:Hid (∃ a b:Int,∃ x:Bool,v= .tuple #[.int .u8 a,b,.bool x]):=by
    apply Lib.hid;rw[hv,z5y]
    split
    ·exact⟨_,_,_,rfl⟩
    ·split
     ·exact⟨_,_,_,rfl⟩
     ·exact⟨_,_,_,rfl⟩
   clear hv e hd hx hc;obtain⟨a,b,x,rfl⟩:=HV.out;clear hp;go_enter Tryz.func146,Tryz.ntmps146;go_wp2_with (go_at_call 168;((with_reducible refine(K.out _).mono ?_));rintro e w' ⟨rfl,rfl⟩)
   go_ret3
   exact⟨rfl,rfl⟩
  ·have hx1:((s[p].toNat:Int)==120)=false:=z0s (n:=120) (by rw[←hc];exact hx) (by omega)
   have e1:lookB letSet (s.data.toList.drop p)=Lib.indexByte letSet.data.toList c:=by rw[hd];rfl
   have K:=zz fun v hv w=>y5d s p hi v (e1.trans hv) w
   have hn:(p:Int)=((i+1:Nat):Int):=by omega
   have hk:(p:Int)+1=((i+2:Nat):Int):=by omega
   rw[hd];clear e1
   rcases x0m c with ⟨h1,h2⟩ | ⟨h1,h2⟩ | ⟨h1,h2⟩ | ⟨h1,h2⟩ | ⟨h1,h2⟩ | ⟨h1,h2⟩ | ⟨h1,h2⟩
   ·rw[z8n hx h1]
    have K':=zz (K.out _ h2);have HR:Hid (resS i (.bad 1)= .tuple #[.int .u8 0,p,.bool false]):=by apply Lib.hid;rw[hn];rfl
    rw[HR.out];clear h1 h2 K hd hx hc hp hn hk;go_enter Tryz.func146,Tryz.ntmps146;go_wp2_with (go_at_call 169;((with_reducible refine(K'.out _).mono ?_));rintro e w' ⟨rfl,rfl⟩)
    go_ret3
    exact⟨rfl,rfl⟩
   all_goals
    rw[y9p c _ _ hx h1];have K':=zz (K.out _ h2);unfold resS;dsimp only;rw[←hk];clear h1 h2 K hd hx hc hp hn hk;go_enter Tryz.func146,Tryz.ntmps146;go_wp2_with (go_at_call 169;((with_reducible refine(K'.out _).mono ?_));rintro e w' ⟨rfl,rfl⟩)
    go_ret3
    exact⟨rfl,rfl⟩
 ·obtain rfl:p=s.size:=by omega
  rw[z07 s s.size hlt];have K:=zz fun w=>y5d s s.size hi (-1) (by rw[z07 s s.size hlt];rfl) w
  have HR:Hid (resS i (stepEsc [])= .tuple #[.int .u8 0,s.size,.bool false]):=by apply Lib.hid;rw[hp];rfl
  rw[HR.out];clear hp;go_enter Tryz.func146,Tryz.ntmps146;go_wp2_with (go_at_call 169;((with_reducible refine(K.out _).mono ?_));rintro e w' ⟨rfl,rfl⟩)
  go_ret3
  exact⟨rfl,rfl⟩
end Go.Proofs.YtngfihoempcplaaGreatDoor
