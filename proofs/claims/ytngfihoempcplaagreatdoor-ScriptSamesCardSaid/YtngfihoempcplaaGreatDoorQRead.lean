import Derived.Test.YtngfihoempcplaaGreatDoorRPrint2
namespace Go.Proofs.YtngfihoempcplaaGreatDoor
open Go Go.RowKit
theorem goN_len (r:Bs) (pos:Nat) (ps:List Pt) (t:Bs):∀ out,(goN r pos ps t).1=some out→out.length≤ps.length+1+2 * r.length:=by
 refine goN_ind (P:=fun r pos ps t=>∀ out,(goN r pos ps t).1=some out→out.length≤ps.length+1+2 * r.length) ?_ ?_ ?_ ?_ (r.length+1) r pos ps t (Nat.lt_succ_self _)
 ·intro r k pos ps t h out ho
  rw[goN_bad h] at ho;cases ho
 ·intro r pos ps t h out ho
  rw[goN_stop h] at ho;injection ho with ho;subst ho
  have:=flush_len ps t;omega
 ·intro r nm k pos ps t h h0 h1 ih out ho
  rw[goN_var h] at ho;have:=ih out ho;have h2:=flush_len ps t;rw[List.length_append,List.length_drop] at this;simp at this;omega
 ·intro r c k pos ps t h h0 h1 ih out ho
  rw[goN_byte h] at ho;have:=ih out ho;rw[List.length_drop] at this;omega
theorem parse_len (l:Bs) (out:List Pt) (h:(parse l).1=some out):out.length≤1+2 * l.length:=by
 cases l with
 | nil=>simp[parse] at h
 | cons c r=>
   by_cases hc:c=34
   ·subst hc
    rw[parse_quote] at h;have:=goN_len r 1 [] [] out h;simp at this ⊢;omega
   ·rw[parse_no c r hc] at h;cases h
theorem may_names:∀ (b:Bool) (ps:List Pt),may b ps=true→∀ p∈ps,p.1.length≤8
 | _,[],_,p,hp=>by simp at hp
 | b,q::r,h,p,hp=>by
   rw[may_cons,Bool.and_eq_true] at h
   rcases List.mem_cons.1 hp with rfl | hp
   ·have h1:=h.1
    unfold okP at h1
    split at h1
    ·rename_i e;rw[e];simp
    ·rw[Bool.and_eq_true] at h1
     have h2:=h1.2;unfold isName at h2;simp at h2;have:=(nameLen_le p.1).2;omega
   ·exact may_names _ r h.2 p hp
theorem Rd.onto {w w':World} {A:Option Addr} {n:Nat} {ps:List Pt} (h:Rd w.heap.size w A n ps) (hb:Below w.heap.size w w'):Rd w'.heap.size w' A n ps:=
 ⟨h.1,fun hn=>by
  obtain⟨ad,e,hr⟩:=h.2 hn;exact⟨ad,e,Nat.lt_of_lt_of_le hr.1 hb.size,(hr.keep hb).2⟩⟩
theorem prB_len (c:UInt8):(prB c).length≤4:=by
 have h:∀ c:UInt8,(prB c).length≤4:=all256 _ (by decide+kernel);exact h c
theorem bytes_len:∀ l:Bs,(l.flatMap prB).length≤4 * l.length
 | []=>by simp
 | c::l=>by
   have:=bytes_len l;have:=prB_len c;rw[List.flatMap_cons,List.length_append,List.length_cons];omega
end Go.Proofs.YtngfihoempcplaaGreatDoor
