import Derived.Test.YtngfihoempcplaaGreatDoorCf
import Derived.Test.YtngfihoempcplaaGreatDoorRPrint2
namespace Go.Proofs.YtngfihoempcplaaGreatDoor
open Go Go.RowKit
theorem RdA.at0 {B:Nat} {w:World} {ad:Addr} {ps:List Pt} (h:RdA B w ad ps) {p:Pt} (hk:ps[0]?=some p):
  w.cell? ad=some (.string ⟨p.1.toArray⟩)∧w.cell? ⟨ad.block,ad.off+1,none⟩=some (.string ⟨p.2.toArray⟩):=by
 have h2:=h.at_ hk
 have e:ad.add (0 * 2)=ad:=by simp[Addr.add]
 rw[e] at h2;exact h2
theorem y57 (A:OA) (c:Nat) (w:World):
  Cz 179 #[.slice A 0 c] w fun e w'=>e= .returned (.tuple #[oS,.bool true])∧Below w.heap.size w w':=by
 go_enter Tryz.func179,Tryz.ntmps179;go_wp2
 go_ret2
 exact⟨rfl,Below.refl _ _⟩
theorem y6b (A:OA) (n c:Nat) (h:1<n) (hm:n≤1000000) (w:World):
  Cz 179 #[.slice A n c] w fun e w'=>e= .returned (.tuple #[oS,.bool false])∧Below w.heap.size w w':=by
 have h1:((n:Int)==0)=false:=by simp;omega
 have h2:(n==0)=false:=by simp;omega
 go_enter Tryz.func179,Tryz.ntmps179;go_wp2
 go_ret2
 exact⟨rfl,Below.refl _ _⟩
theorem x0e (A:OA) (c:Nat) (p:Pt) (w:World) (h:Rd w.heap.size w A 1 [p]) (hp:¬ p.1=[]):
  Cz 179 #[.slice A 1 c] w fun e w'=>e= .returned (.tuple #[oS,.bool false])∧Below w.heap.size w w':=by
 obtain⟨ad,rfl,hr⟩:=h.2 (by omega);obtain⟨c0,c1⟩:=hr.at0 (p:=p) rfl;obtain⟨N,hN⟩:∃ N:BA,N=⟨p.1.toArray⟩:=⟨_,rfl⟩;rw[←hN] at c0;obtain⟨n1,n2⟩:=z4r hN hp;clear h hr hN hp;go_enter Tryz.func179,Tryz.ntmps179;go_wp2
 go_ret2
 exact⟨rfl,Below.refl _ _⟩
theorem y5i (A:OA) (c:Nat) (p:Pt) (T:BA) (hT:T=⟨p.2.toArray⟩) (w:World) (h:Rd w.heap.size w A 1 [p]) (hp:p.1=[]) (hp2:¬ p.2=[]) (hs:T.size≤1000000):
  Cz 179 #[.slice A 1 c] w fun e w'=>e= .returned (.tuple #[T,.bool true])∧Below w.heap.size w w':=by
 have K:=zz (y0b A 1 c [p] w h (by omega) (by intro q hq;simp at hq;subst hq;rw[hp];simp));have hm:may false [p]=true:=by simp[may,okP,hp,hp2]
 rw[hm] at K;obtain⟨ad,rfl,hr⟩:=h.2 (by omega);obtain⟨c0,c1⟩:=hr.at0 (p:=p) rfl;have HK:Hid (∀ w1,Below w.heap.size w w1→w1.cell? ⟨ad.block,ad.off+1,none⟩=some (.string T)):=zz fun w1 hb=>by rw[hT];exact((hr.keep hb).at0 (p:=p) rfl).2
 obtain⟨N,hN⟩:∃ N:BA,N=⟨p.1.toArray⟩:=⟨_,rfl⟩;rw[←hN] at c0;obtain⟨n1,n2⟩:=z7q hN hp;have KC:=zz fun w=>z49 T (by omega) w
 clear h hr hN hp hp2 hT hm c1;go_enter Tryz.func179,Tryz.ntmps179;go_wp2_with (first | (go_at_call 80;((with_reducible refine(K.out).mono ?_));rintro e w1 ⟨rfl,hb1⟩;have d1:=HK.out w1 hb1) | (go_at_call 89;((with_reducible refine(KC.out _).mono ?_));rintro e w2 ⟨rfl,hb2⟩))
 go_ret2
 exact⟨rfl,hb1.trans (hb2.mono hb1.size)⟩
end Go.Proofs.YtngfihoempcplaaGreatDoor
