import Derived.BigQuiet
import Derived.Below
import Derived.Test.YtngfihoempcplaaGreatDoorCf
import Derived.Test.YtngfihoempcplaaGreatDoorRPrint2
namespace Go.Proofs.YtngfihoempcplaaGreatDoor
open Go Go.RowKit
section
def Bw (w:World):Type:={x:World // Below w.heap.size w x}
theorem z1i (w:World):Nonempty (Bw w):=⟨⟨w,Below.refl _ _⟩⟩
def Bw.at {w:World} (n:Bw w):World:=n.1
section
variable {P:Program} {w:World}
theorem z0i {id:Nat} {Q:Exit→Act→World→Prop} {a:Act} {l:List Oper} (hm:P.follows .mixedOrders=true) (hB:Region.lexB .any l.toArray=true)
  (h:wpQuiet P l.toArray (fun w'=>∃ n:Bw w,w'=n.at) (fun a'=>∀ w',(∃ n:Bw w,w'=n.at)→Q .normal a' w') l a):(Code.region id l.toArray true).wp P Q a w:=
 wp_region_quiet (C:=fun w'=>∃ n:Bw w,w'=n.at) hm hB ⟨⟨w.drew,bR.drew⟩,rfl⟩ (by simpa using h)
theorem z4s {f:FuncId} {args:Array Value} {v:Value} {n:Bw w} (h:Calls P f args n.at fun e w''=>e= .returned v∧Below n.at.heap.size n.at w''):
  Calls P f args n.at fun e w''=>e= .returned v∧∃ m:Bw w,w''=m.at:=
 h.mono fun _ w'' ⟨he,hb⟩=>⟨he,⟨w'',n.2.trans (hb.mono n.2.size)⟩,rfl⟩
end
theorem z06 {w:World} {a:Addr} {v:Value} (h:w.cell? a=some v) (n:Bw w):n.at.cell? a=some v:=(n.2.cell (World.block_lt_of_cell? w _ h)).trans h
end
theorem x3u (r:Bs) (pos:Nat) (ps:List Pt) (t:Bs):∀ out,(goN r pos ps t).1=some out→out.length≤ps.length+1+2 * r.length:=by
 refine z5q (P:=fun r pos ps t=>∀ out,(goN r pos ps t).1=some out→out.length≤ps.length+1+2 * r.length) ?_ ?_ ?_ ?_ (r.length+1) r pos ps t (Nat.lt_succ_self _)
 ·intro r k pos ps t h out ho
  rw[z2p h] at ho;cases ho
 ·intro r pos ps t h out ho
  rw[z39 h] at ho;injection ho with ho;subst ho
  have:=z48 ps t;omega
 ·intro r nm k pos ps t h h0 h1 ih out ho
  rw[z55 h] at ho;have:=ih out ho;have h2:=z48 ps t;rw[List.length_append,List.length_drop] at this;simp at this;omega
 ·intro r c k pos ps t h h0 h1 ih out ho
  rw[z3n h] at ho;have:=ih out ho;rw[List.length_drop] at this;omega
theorem y67 (l:Bs) (out:List Pt) (h:(parse l).1=some out):out.length≤1+2 * l.length:=by
 cases l with
 | nil=>simp[parse] at h
 | cons c r=>
   by_cases hc:c=34
   ·subst hc
    rw[z2b] at h;have:=x3u r 1 [] [] out h;simp at this ⊢;omega
   ·rw[z38 c r hc] at h;cases h
theorem y2o:∀ (b:Bool) (ps:List Pt),may b ps=true→∀ p∈ps,p.1.length≤8
 | _,[],_,p,hp=>by simp at hp
 | b,q::r,h,p,hp=>by
   rw[y4f,Bool.and_eq_true] at h
   rcases List.mem_cons.1 hp with rfl | hp
   ·have h1:=h.1
    unfold okP at h1
    split at h1
    ·rename_i e;rw[e];simp
    ·rw[Bool.and_eq_true] at h1
     have h2:=h1.2;unfold isName at h2;simp at h2;have:=(z3f p.1).2;omega
   ·exact y2o _ r h.2 p hp
theorem Rd.onto {w w':World} {A:OA} {n:Nat} {ps:List Pt} (h:Rd w.heap.size w A n ps) (hb:Below w.heap.size w w'):Rd w'.heap.size w' A n ps:=
 ⟨h.1,fun hn=>by
  obtain⟨ad,e,hr⟩:=h.2 hn;exact⟨ad,e,Nat.lt_of_lt_of_le hr.1 hb.size,(hr.keep hb).2⟩⟩
theorem x4c (c:UInt8):(prB c).length≤4:=by
 have h:∀ c:UInt8,(prB c).length≤4:=z5c _ (by decide+kernel);exact h c
theorem y1c:∀ l:Bs,(l.flatMap prB).length≤4 * l.length
 | []=>by simp
 | c::l=>by
   have:=y1c l;have:=x4c c;rw[List.flatMap_cons,List.length_append,List.length_cons];omega
end Go.Proofs.YtngfihoempcplaaGreatDoor
