import Derived.Test.YthghbdeaenjckaaDoorEx12
namespace Go.Proofs.YthghbdeaenjckaaDoor
open Go Go.RowKit
theorem ba_of (l:Bs):∃ X:ByteArray,X.toList=l∧(⟨l.toArray⟩:ByteArray)=X:=⟨⟨l.toArray⟩,by rw[toList_data],rfl⟩
theorem mayL_snoc (x:Ex) (d:Nat):∀ l:List Ex,mayL (l++[x]) d=(mayL l d && mayX x d)
 | []=>by rw[List.nil_append,mayL,mayL,mayL];simp
 | y::l=>by rw[List.cons_append,mayL,mayL,mayL_snoc x d l,Bool.and_assoc]
theorem mayL_take {l:List Ex} {k d:Nat} {x:Ex} (h:l[k]?=some x) (hp:mayL (l.take k) d=true):mayL (l.take (k+1)) d=mayX x d:=by
 obtain⟨hk,e⟩:=List.getElem?_eq_some_iff.1 h;rw[List.take_succ_eq_append_getElem hk,e,mayL_snoc,hp,Bool.true_and]
theorem mayL_not {l:List Ex} {k d:Nat} {x:Ex} (h:l[k]?=some x) (hx:mayX x d=false):mayL l d=false:=by
 rw[Bool.eq_false_iff];intro hl;have:=mayL_all hl x (List.mem_of_getElem? h);rw[hx] at this;cases this
end Go.Proofs.YthghbdeaenjckaaDoor
