import Derived.Test.YthghbdeaenjckaaGreatDoorMem
namespace Go.Proofs.YthghbdeaenjckaaGreatDoor
open Go Go.RowKit
theorem below_kept {w w':World} {B e s n:Nat} {v:Value} {xs:List Value} (h:w.ownsRow B e s v n xs) (hb:Below w.heap.size w w'):w'.ownsRow B e s v n xs:=
 h.kept (row:=none) ⟨hb.os,hb.tape,hb.output,hb.size,fun k hk _=>hb.block k hk⟩ (by cases v.ownBlock <;> simp)
theorem Two2.beyond {B:Nat} {w0 w w':World} {vp vt:Value} {ps:List Pt} {t:Bs} (h:Two2 B w0 w vp vt ps t) (hb:Below w.heap.size w w'):Two2 B w0 w' vp vt ps t:=
 ⟨below_kept h.parts hb,below_kept h.text hb,h.below.trans (hb.mono h.size),Nat.le_trans h.size hb.size⟩
def errOf (o:Option (List Pt)):Int:=match o with | none=>1 | some _=>0
def outOf (o:Option (List Pt)):List Pt:=match o with | none=>[] | some l=>l
def PostP (B:Nat) (w:World) (R:Option (List Pt) × Nat) (e:Ending) (w':World):Prop:=
 ∃ v,e= .returned (.tuple #[v,.int .i64 R.2,.int .i64 (errOf R.1)])∧w'.ownsRow B 81 2 v (outOf R.1).length (cellsP (outOf R.1))∧Below B w w'
theorem one_one (b:Int):∀ u∈[Value.int .u8 b],u.oneCell'=true:=by
 intro u hu;simp only[List.mem_cons,List.not_mem_nil,or_false] at hu
 rcases hu with rfl;rfl
theorem flush_len (ps:List Pt) (t:Bs):(flush ps t).length≤ps.length+1:=by unfold flush;split <;> simp
theorem postP_bad {w w':World} {vp vt:Value} {ps:List Pt} {t:Bs} {R:Option (List Pt) × Nat} {n:Nat} {q:Int} (h:Two2 w.heap.size w w' vp vt ps t) (hR:R=(none,n)) (hq:q=n):
  PostP w.heap.size w R (.returned (.tuple #[.slice none 0 0,.int .i64 q,.int .i64 1])) w':=by
 subst hR hq;exact⟨_,rfl,World.ownsRow_nil _ _ _ _,h.below⟩
end Go.Proofs.YthghbdeaenjckaaGreatDoor
