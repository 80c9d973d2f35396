import Derived.Laws.IdiomStrings
import Derived.Laws.OwnMore
import Derived.Lib.SmallJoins
import Derived.Lib.UnsafeStr
import Derived.Test.YtngfihoempcplaaGreatDoorCf
import Derived.Test.YtngfihoempcplaaGreatDoorVar2
namespace Go.Proofs.YtngfihoempcplaaGreatDoor
open Go Go.RowKit
def cellsP (ps:List Pt):List Value:=ps.flatMap fun p=>[p.1,p.2]
theorem y0f (a b:List Pt):cellsP (a++b)=cellsP a++cellsP b:=by simp[cellsP]
abbrev byteCells (t:Bs):List Value:=Lib.byteCells t
theorem y74:(Tryz.prog.info? 81).map (fun i=>(i.zero,i.size,i.bytes))=some (some (.agg #[oS,oS]),2,32):=by kernel_rfl
theorem info5:(Tryz.prog.info? 5).map (fun i=>(i.zero,i.size,i.bytes))=some (some (.int .u8 0),1,1):=by kernel_rfl
structure Two2 (B:Nat) (w0 w:World) (vp vt:Value) (ps:List Pt) (t:Bs):Prop where
 parts:w.ownsRow B 81 2 vp ps.length (cellsP ps)
 text:w.ownsRow B 5 1 vt t.length (byteCells t)
 below:Below B w0 w
 size:B≤w.heap.size
theorem y1x {w:World} {B e e' s s' n n':Nat} {v v':Value} {xs xs':List Value} (h:w.ownsRow B e s v n xs) (h':w.ownsRow B e' s' v' n' xs') (hne:e≠e'):v.ownBlock=none∨v.ownBlock≠v'.ownBlock:=by
 rcases h.2 with ⟨rfl,_⟩ | ⟨g,cap,cur,rfl,_,hh,_⟩
 ·exact .inl rfl
 ·right
  rcases h'.2 with ⟨rfl,_⟩ | ⟨g',cap',cur',rfl,_,hh',_⟩
  ·simp[Value.ownBlock]
  ·simp only[Value.ownBlock,ne_eq,Option.some.injEq]
   rintro rfl;rw[hh] at hh';injection hh' with hh'
   injection hh' with _ ht
   exact hne ht
theorem z13 {w:World} {B:Nat} {v:Value} {t:Bs} (h:w.ownsRow B 5 1 v t.length (byteCells t)):(v= .slice none 0 0∧t=[])∨∃ g cap,v= .slice (some ⟨g,0,none⟩) t.length cap∧t.length≤cap:=by
 rcases h.2 with ⟨rfl,h0⟩ | ⟨g,cap,cur,rfl,_,_,hc,_⟩
 ·exact .inl ⟨rfl,List.eq_nil_of_length_eq_zero h0⟩
 ·exact .inr ⟨g,cap,rfl,hc⟩
theorem z6x {w:World} {B g cap:Nat} {t:Bs} (h:w.ownsRow B 5 1 (.slice (some ⟨g,0,none⟩) t.length cap) t.length (byteCells t)):
  (convert 86 9 (.slice (some ⟨g,0,none⟩) t.length cap)).run Tryz.prog w= .ok (.string ⟨t.toArray⟩) w:=by
 refine run_convert_bytes_back (P:=Tryz.prog) w 86 9 5 ⟨g,0,none⟩ cap t Tryz.underlying86 Tryz.underlying5 Tryz.underlying9 ?_;intro j hj;exact h.cells (g:=g) rfl j _ (by simp[byteCells,Lib.byteCells,hj])
def Added (B:Nat) (w0:World) (vt:Value) (ps:List Pt) (t:Bs) (e:Ending) (w':World):Prop:=∃ v',e= .returned v'∧Two2 B w0 w' v' vt ps t
theorem Two2.alloc {B:Nat} {w0 w:World} {vp vt:Value} {ps:List Pt} {t:Bs} (h:Two2 B w0 w vp vt ps t) (o:Obj):Two2 B w0 (w.alloc o) vp vt ps t:=
 ⟨h.parts.alloc o,h.text.alloc o,h.below.alloc h.size o,by simp;have:=h.size;omega⟩
theorem Two2.part {B:Nat} {w0 w w':World} {vp vt v':Value} {ps:List Pt} {t:Bs} {p:Pt} (h:Two2 B w0 w vp vt ps t)
  (ho:w'.ownsRow B 81 2 v' (ps.length+1) (cellsP ps++[.string ⟨p.1.toArray⟩,.string ⟨p.2.toArray⟩])) (hg:w.grownBy w' vp.ownBlock):Two2 B w0 w' v' vt (ps++[p]) t:=
 ⟨by rw[y0f];simpa[cellsP] using ho,h.text.kept hg (y1x h.text h.parts (by decide)),h.below.grown hg h.size (fun k hk=>(h.parts.lt k hk).1),Nat.le_trans h.size hg.size⟩
theorem z0k (w:World) (T:TypeId) (cs:Array Value) (j:Nat) (u:Value) (h:cs.toList[j]?=some u):(w.alloc (.cells cs T)).cell? ((⟨w.heap.size,0,none⟩:Addr).add j)=some u:=by
 have hadd:(⟨w.heap.size,0,none⟩:Addr).add j=⟨w.heap.size,j,none⟩:=by unfold Addr.add;split <;> simp_all
 rw[hadd,cell_of_row _ _ j cs T (0,0) (heap_alloc_new w _)];simpa using h
theorem z3u (a b:BA):∀ u∈[Value.string a,Value.string b],u.oneCell'=true:=by
 intro u hu;simp only[List.mem_cons,List.not_mem_nil,or_false] at hu
 rcases hu with rfl | rfl <;> rfl
theorem y5x (B:Nat) (w0 w:World) (vp vt:Value) (ps:List Pt) (h:Two2 B w0 w vp vt ps []):Cz 124 #[vp,vt] w (Added B w0 vt (flush ps []) []):=by
 have H:=zz h;have hz:flush ps []=ps:=rfl;rw[hz]
 rcases z13 h.text with ⟨rfl,_⟩ | ⟨g,cap,rfl,_⟩
 ·clear h hz
  go_enter Tryz.func124,Tryz.ntmps124;go_wp2;go_ret;exact⟨_,rfl,H.out⟩
 ·clear h hz
  go_enter Tryz.func124,Tryz.ntmps124;go_wp2;go_ret;exact⟨_,rfl,H.out⟩
theorem y2y (B:Nat) (w0 w:World) (vp vt:Value) (ps:List Pt) (t:Bs) (hp:ps.length≤1000000) (h0:t≠[]) (h:Two2 B w0 w vp vt ps t):Cz 124 #[vp,vt] w (Added B w0 vt (flush ps t) t):=by
 have H:=zz h;have hz:flush ps t=ps++[([],t)]:=by unfold flush;rw[if_neg h0]
 rw[hz];have hl:0<t.length:=List.length_pos_iff.2 h0;obtain⟨i0,hi,hz0,hz1,hz2⟩:=info_parts y74
 rcases z13 h.text with ⟨rfl,e⟩ | ⟨g,cap,rfl,_⟩
 ·exact absurd e h0
 ·have hc:=z6x h.text
  have hb1:((t.length:Int)==0)=false:=by simp;omega
  have hb2:(t.length==0)=false:=by simp;omega
  obtain⟨m,hm⟩:∃ m,m=t.length:=⟨_,rfl⟩;rw[←hm] at hc hb1 hb2 H ⊢;have HM:=zz hm;clear h hz h0 hm hl;go_enter Tryz.func124,Tryz.ntmps124;go_wp2_with (at_builtin;refine wpList_append_own _ rfl (.tmp 9) (.tmp 13) 35 rfl B 81 i0 (.agg #[oS,oS]) 2 32 Tryz.underlying35 hi hz0 hz1 hz2 rfl (by decide) _ _ _ rfl (H.out.parts.alloc _) ⟨w.heap.size,0,none⟩ 1 1 [oS,t] rfl rfl (fun j u hu=>z0k w 81 #[oS,t] j u hu) (z3u _ _) (by unfold maxLen;omega) (by omega) (H.out.alloc _).size ?_;intro v' w1 hown' hgrow _);go_ret;exact⟨_,rfl,(H.out.alloc _).part (p:=([],t)) hown' hgrow⟩
end Go.Proofs.YtngfihoempcplaaGreatDoor
