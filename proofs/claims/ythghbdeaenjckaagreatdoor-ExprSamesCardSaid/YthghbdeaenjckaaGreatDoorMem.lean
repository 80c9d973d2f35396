import Derived.Laws.IdiomStrings
import Derived.Laws.OwnMore
import Derived.Lib.SmallJoins
import Derived.Lib.UnsafeStr
import Derived.Test.YthghbdeaenjckaaGreatDoorVar2
namespace Go.Proofs.YthghbdeaenjckaaGreatDoor
open Go Go.RowKit
def cellsP (ps:List Pt):List Value:=ps.flatMap fun p=>[.string ⟨p.1.toArray⟩,.string ⟨p.2.toArray⟩]
theorem cellsP_append (a b:List Pt):cellsP (a++b)=cellsP a++cellsP b:=by simp[cellsP]
abbrev byteCells (t:Bs):List Value:=Lib.byteCells t
theorem info33:(Tryz.prog.info? 81).map (fun i=>(i.zero,i.size,i.bytes))=some (some (.agg #[.string ⟨#[]⟩,.string ⟨#[]⟩]),2,32):=by kernel_rfl
theorem info5:(Tryz.prog.info? 5).map (fun i=>(i.zero,i.size,i.bytes))=some (some (.int .u8 0),1,1):=by kernel_rfl
structure Two2 (B:Nat) (w0 w:World) (vp vt:Value) (ps:List Pt) (t:Bs):Prop where
 parts:w.ownsRow B 81 2 vp ps.length (cellsP ps)
 text:w.ownsRow B 5 1 vt t.length (byteCells t)
 below:Below B w0 w
 size:B≤w.heap.size
theorem own_ne {w:World} {B e e' s s' n n':Nat} {v v':Value} {xs xs':List Value} (h:w.ownsRow B e s v n xs) (h':w.ownsRow B e' s' v' n' xs') (hne:e≠e'):v.ownBlock=none∨v.ownBlock≠v'.ownBlock:=by
 rcases h.2 with ⟨rfl,_⟩ | ⟨g,cap,cur,rfl,_,hh,_⟩
 ·exact .inl rfl
 ·right
  rcases h'.2 with ⟨rfl,_⟩ | ⟨g',cap',cur',rfl,_,hh',_⟩
  ·simp[Value.ownBlock]
  ·simp only[Value.ownBlock,ne_eq,Option.some.injEq]
   rintro rfl;rw[hh] at hh';injection hh' with hh'
   injection hh' with _ ht
   exact hne ht
theorem text_form {w:World} {B:Nat} {v:Value} {t:Bs} (h:w.ownsRow B 5 1 v t.length (byteCells t)):(v= .slice none 0 0∧t=[])∨∃ g cap,v= .slice (some ⟨g,0,none⟩) t.length cap∧t.length≤cap:=by
 rcases h.2 with ⟨rfl,h0⟩ | ⟨g,cap,cur,rfl,_,_,hc,_⟩
 ·exact .inl ⟨rfl,List.eq_nil_of_length_eq_zero h0⟩
 ·exact .inr ⟨g,cap,rfl,hc⟩
theorem text_conv {w:World} {B g cap:Nat} {t:Bs} (h:w.ownsRow B 5 1 (.slice (some ⟨g,0,none⟩) t.length cap) t.length (byteCells t)):
  (convert 77 9 (.slice (some ⟨g,0,none⟩) t.length cap)).run Tryz.prog w= .ok (.string ⟨t.toArray⟩) w:=by
 refine run_convert_bytes_back (P:=Tryz.prog) w 77 9 5 ⟨g,0,none⟩ cap t Tryz.underlying77 Tryz.underlying5 Tryz.underlying9 ?_;intro j hj;exact h.cells (g:=g) rfl j _ (by simp[byteCells,Lib.byteCells,hj])
theorem Two2.alloc {B:Nat} {w0 w:World} {vp vt:Value} {ps:List Pt} {t:Bs} (h:Two2 B w0 w vp vt ps t) (o:Obj):Two2 B w0 (w.alloc o) vp vt ps t:=
 ⟨h.parts.alloc o,h.text.alloc o,h.below.alloc h.size o,by simp;have:=h.size;omega⟩
theorem Two2.part {B:Nat} {w0 w w':World} {vp vt v':Value} {ps:List Pt} {t:Bs} {p:Pt} (h:Two2 B w0 w vp vt ps t)
  (ho:w'.ownsRow B 81 2 v' (ps.length+1) (cellsP ps++[.string ⟨p.1.toArray⟩,.string ⟨p.2.toArray⟩])) (hg:w.grownBy w' vp.ownBlock):Two2 B w0 w' v' vt (ps++[p]) t:=
 ⟨by rw[cellsP_append];simpa[cellsP] using ho,h.text.kept hg (own_ne h.text h.parts (by decide)),h.below.grown hg h.size (fun k hk=>(h.parts.lt k hk).1),Nat.le_trans h.size hg.size⟩
theorem new_cells (w:World) (T:TypeId) (cs:Array Value) (j:Nat) (u:Value) (h:cs.toList[j]?=some u):(w.alloc (.cells cs T)).cell? ((⟨w.heap.size,0,none⟩:Addr).add j)=some u:=by
 have hadd:(⟨w.heap.size,0,none⟩:Addr).add j=⟨w.heap.size,j,none⟩:=by unfold Addr.add;split <;> simp_all
 rw[hadd,cell_of_row _ _ j cs T (0,0) (heap_alloc_new w _)];simpa using h
theorem two_one (a b:ByteArray):∀ u∈[Value.string a,Value.string b],u.oneCell'=true:=by
 intro u hu;simp only[List.mem_cons,List.not_mem_nil,or_false] at hu
 rcases hu with rfl | rfl <;> rfl
end Go.Proofs.YthghbdeaenjckaaGreatDoor
