import Derived.Maps.Own
import Derived.DeepKeys4
import Derived.Test.YtejgbpbljdhndaaDoorG3
import Derived.Test.YtejgbpbljdhndaaDoorF9
import Derived.Test.YtejgbpbljdhndaaDoorTree2
import Derived.Handy
import Derived.Deep.RegionHeld3
import Derived.LaidEqlPtr
import Derived.Test.YtejgbpbljdhndaaDoorSetW
import Derived.Deep.AppendLies
import Derived.BigRegion
import Derived.Deep.LoopGhost
namespace Go.Proofs.YtejgbpbljdhndaaDoor
open Go Go.RowKit
set_option maxRecDepth 100000
set_option maxHeartbeats 4000000
section
open Go.Maps (Keyed)
open Go.ChangeMaps (setBlock heap_setBlock_same heap_setBlock_other)
def MapIs (k:TypeId) (w:World) (b:Nat) (f:Value→Option Value):Prop:=∃ es clock,w.heap[b]?=some (.map es clock)∧(∀ e∈es.toList,∃ l,keyOf Tryd.prog k e.key=some l)∧
 es.toList.Pairwise (fun x y=>x.key≠y.key)∧(∀ e∈es.toList,f e.key=some e.val)∧∀ key v,f key=some v→∃ e∈es.toList,e.key=key
theorem MapIs.keep {k:TypeId} {w w':World} {b:Nat} {f:Value→Option Value} (h:MapIs k w b f) (hb:w'.heap[b]?=w.heap[b]?):MapIs k w' b f:=by
 obtain⟨es,clock,h1,h2⟩:=h;exact⟨es,clock,hb.trans h1,h2⟩
theorem MapIs.lt {k:TypeId} {w:World} {b:Nat} {f:Value→Option Value} (h:MapIs k w b f):b<w.heap.size:=by
 obtain⟨es,clock,h1,_⟩:=h;exact(Array.getElem?_eq_some_iff.mp h1).1
theorem MapIs.made (k:TypeId) (w:World):MapIs k (w.alloc (.map #[] 0)) w.heap.size (fun _=>none):=
 ⟨#[],0,heap_alloc_new w _,fun e he=>(by simp at he),by simp,fun e he=>(by simp at he),fun key v h=>(by cases h)⟩
noncomputable def updF (f:Value→Option Value) (k v:Value):Value→Option Value:=fun x=>@ite _ (x=k) (Classical.propDecidable _) (some v) (f x)
theorem z3z (f:Value→Option Value) (k v:Value):updF f k v k=some v:=by unfold updF;exact if_pos rfl
theorem z17 (f:Value→Option Value) {k v x:Value} (h:x≠k):updF f k v x=f x:=by unfold updF;exact if_neg h
theorem MapIs.look {k e t:TypeId} {w:World} {b:Nat} {f:Value→Option Value} (h:MapIs k w b f) (K:Keyed Tryd.prog k) (ht:Tryd.prog.underlying t=some (.map k e)) {z:Value} (hz:(zeroValue e).run Tryd.prog w= .ok z w)
  {key:Value} {kl:Lit} (hkey:keyOf Tryd.prog k key=some kl) (c:Bool):
  (Instr.lookup t (.map (some b)) key c).run Tryd.prog w= .ok (if c then .tuple #[(f key).getD z,.bool (f key).isSome] else (f key).getD z) w:=by
 obtain⟨es,clock,h1,h2,h3,h4,h5⟩:=h
 rcases K.find w hkey es.toList h2 with ⟨q1,q2⟩ | ⟨j,e0,q1,q2,q3⟩
 ·have:f key=none:=by
   cases hf:f key with
   | none=>rfl
   | some v=>obtain⟨e,he,hk⟩:=h5 key v hf;exact(q2 e he hk).elim
  rw[this];simp[Instr.lookup,run_underlying ht,MapKept.run_getObj_map h1,K.check w _ hkey,q1,hz,Result.andThen]
 ·have:f key=some e0.val:=by rw[←q3];exact h4 e0 (List.mem_of_getElem? q2)
  rw[this];simp[Instr.lookup,run_underlying ht,MapKept.run_getObj_map h1,K.check w _ hkey,q1,Result.andThen]
theorem z72 {α:Type} (f:α→α):∀ (l:List α) (j:Nat) (x:α),l[j]?=some x→l.modify j f=l.set j (f x)
 | [],_,_,h=>by simp at h
 | a::l,0,x,h=>by simp at h;subst h;rfl
 | a::l,j+1,x,h=>by
   rw[List.getElem?_cons_succ] at h;simp[z72 f l j x h]
theorem MapIs.store {k e t:TypeId} {w:World} {b:Nat} {f:Value→Option Value} (h:MapIs k w b f) (K:Keyed Tryd.prog k) (ht:Tryd.prog.underlying t=some (.map k e))
  {key val:Value} {kl:Lit} (hkey:keyOf Tryd.prog k key=some kl):
  ∃ o,(Instr.mapUpdate t (.map (some b)) key val).run Tryd.prog w= .ok () (setBlock w b o)∧MapIs k (setBlock w b o) b (updF f key val)∧∀ i,i≠b→(setBlock w b o).heap[i]?=w.heap[i]?:=by
 obtain⟨es,clock,h1,h2,h3,h4,h5⟩:=h
 rcases K.find w hkey es.toList h2 with ⟨q1,q2⟩ | ⟨j,e0,q1,q2,q3⟩
 ·refine⟨.map (es.push ⟨key,val,clock⟩) (clock+1),?_,⟨_,_,heap_setBlock_same h1 _,?_,?_,?_,?_⟩,fun i hi=>heap_setBlock_other h1 _ hi⟩
  ·simp[Instr.mapUpdate,run_underlying ht,MapKept.run_getObj_map h1,K.check w false hkey,q1,MapKept.run_setObj_map _ h1,Result.andThen,setBlock]
  ·intro x hx
   simp only[Array.toList_push,List.mem_append,List.mem_singleton] at hx
   rcases hx with hx | rfl
   ·exact h2 x hx
   ·exact⟨_,hkey⟩
  ·simp only[Array.toList_push]
   exact List.pairwise_append.2 ⟨h3,by simp,fun x hx y hy=>by simp only[List.mem_singleton] at hy;subst hy;exact q2 x hx⟩
  ·intro x hx
   simp only[Array.toList_push,List.mem_append,List.mem_singleton] at hx
   rcases hx with hx | rfl
   ·rw[z17 _ (q2 x hx)];exact h4 x hx
   ·exact z3z _ _ _
  ·intro y v hy
   by_cases hyk:y=key
   ·subst hyk;exact⟨⟨y,val,clock⟩,by simp,rfl⟩
   ·rw[z17 _ hyk] at hy
    obtain⟨x,hx,hxk⟩:=h5 y v hy;exact⟨x,by simp only[Array.toList_push,List.mem_append];exact .inl hx,hxk⟩
 ·have hj:es[j]?=some e0:=by simpa using q2
  have hlist:(es.modify j (fun e'=>{ e' with key:=key,val:=val })).toList=es.toList.set j { e0 with key:=key,val:=val }:=by rw[Array.toList_modify,z72 _ _ _ _ q2]
  have who:∀ x∈es.toList.set j { e0 with key:=key,val:=val },x={ e0 with key:=key,val:=val }∨(x∈es.toList∧x.key≠key):=by
   intro x hx;obtain⟨i,hi,ex⟩:=List.getElem_of_mem hx;rw[List.getElem_set] at ex
   split at ex
   ·exact .inl ex.symm
   ·rename_i hne
    have hi':i<es.toList.length:=by simpa using hi
    have hjl:j<es.toList.length:=(List.getElem?_eq_some_iff.1 q2).1;refine .inr ⟨ex ▸ List.getElem_mem hi',?_⟩;have hj0:es.toList[j]=e0:=(List.getElem?_eq_some_iff.1 q2).2
    have hne2:es.toList[i].key≠es.toList[j].key:=by
     rcases Nat.lt_or_ge i j with hlt | hge
     ·exact List.pairwise_iff_getElem.1 h3 i j hi' hjl hlt
     ·exact fun h=>List.pairwise_iff_getElem.1 h3 j i hjl hi' (by omega) h.symm
    rw[ex,hj0,q3] at hne2;exact hne2
  refine⟨.map (es.modify j (fun e'=>{ e' with key:=key,val:=val })) clock,?_,⟨_,_,heap_setBlock_same h1 _,?_,?_,?_,?_⟩,fun i hi=>heap_setBlock_other h1 _ hi⟩
  ·simp[Instr.mapUpdate,run_underlying ht,MapKept.run_getObj_map h1,K.check w false hkey,q1,hj,q3,K.stays w hkey,MapKept.run_setObj_map _ h1,Result.andThen,setBlock]
  ·intro x hx
   rw[hlist] at hx
   rcases who x hx with rfl | ⟨hx,_⟩
   ·exact⟨_,hkey⟩
   ·exact h2 x hx
  ·rw[hlist]
   have e1:(es.toList.set j { e0 with key:=key,val:=val }).map (·.key)=es.toList.map (·.key):=by
    rw[List.map_set];have hjl:j<es.toList.length:=(List.getElem?_eq_some_iff.1 q2).1;have hj0:es.toList[j]=e0:=(List.getElem?_eq_some_iff.1 q2).2;have h:=@List.set_getElem_self _ (es.toList.map (·.key)) j (by simpa using hjl);rw[List.getElem_map,hj0,q3] at h;exact h
   have h3':(es.toList.map (·.key)).Pairwise (·≠·):=List.pairwise_map.2 h3;rw[←e1] at h3';exact List.pairwise_map.1 h3'
  ·intro x hx
   rw[hlist] at hx
   rcases who x hx with rfl | ⟨hx,hne⟩
   ·exact z3z _ _ _
   ·rw[z17 _ hne];exact h4 x hx
  ·intro y v hy
   rw[hlist];have hjl:j<es.toList.length:=(List.getElem?_eq_some_iff.1 q2).1;by_cases hyk:y=key
   ·subst hyk
    exact⟨{ e0 with key:=y,val:=val },List.mem_iff_getElem.2 ⟨j,by simpa using hjl,by simp⟩,rfl⟩
   ·rw[z17 _ hyk] at hy
    obtain⟨x,hx,hxk⟩:=h5 y v hy;obtain⟨i,hi,ex⟩:=List.getElem_of_mem hx;refine⟨x,List.mem_iff_getElem.2 ⟨i,by simpa using hi,?_⟩,hxk⟩;rw[List.getElem_set,if_neg (fun e=>?_)]
    ·exact ex
    ·subst e
     have hj0:es.toList[j]=e0:=(List.getElem?_eq_some_iff.1 q2).2;rw[hj0] at ex;subst ex;exact hyk (hxk.symm.trans q3)
theorem y26:laidOutB Tryd.prog=true:=by kernel_rfl
theorem row80:(80:TypeId)<Tryd.prog.types.size:=of_decide_eq_true (by kernel_rfl)
theorem x30:(match Tryd.prog.underlying 80 with | some (.array _ _) | some (.struct _)=>true | _=>false)=true:=by kernel_rfl
theorem x26:Tryd.prog.keyTypeAt 2 80=true:=by kernel_rfl
theorem law80:Keyed Tryd.prog 80:=by
 have h:=@deep_law_laid Tryd.prog y26 2 (Nat.le_of_ble_eq_true rfl) 80 row80 x26 x30;exact Keyed.of_law h
theorem x0e:(121:TypeId)<Tryd.prog.types.size:=of_decide_eq_true (by kernel_rfl)
theorem x1n:(match Tryd.prog.underlying 121 with | some (.array _ _) | some (.struct _)=>true | _=>false)=true:=by kernel_rfl
theorem x16:Tryd.prog.keyTypeAt 2 121=true:=by kernel_rfl
theorem x0r:Keyed Tryd.prog 121:=by
 have h:=@deep_law_laid Tryd.prog y26 2 (Nat.le_of_ble_eq_true rfl) 121 x0e x16 x1n;exact Keyed.of_law h
theorem x3f:Tryd.prog.keyType 80=true:=by kernel_rfl
theorem x2c:Tryd.prog.keyType 121=true:=by kernel_rfl
theorem y65:Tryd.prog.cellsOf 80=2:=by kernel_rfl
theorem y22:Tryd.prog.cellsOf 121=5:=by kernel_rfl
theorem y6e:Tryd.prog.cellsOf 3=1:=by kernel_rfl
theorem z9g:∃ n,Tryd.prog.types.size+1=n+2:=⟨Tryd.prog.types.size - 1,by have h:121<Tryd.prog.types.size:=x0e;omega⟩
theorem lits3 (n:Nat) {a:Int} (h:(Lit.int .i64 a).wf=true):Tryd.prog.keyLits (n+1) 3 [.int .i64 a]=some [.int .i64 a]:=by
 unfold Program.keyLits;rw[Tryd.underlying3];simp[h]
theorem key80 {a b:Int} (ha:(Lit.int .i64 a).wf=true) (hb:(Lit.int .i64 b).wf=true):∃ l,keyOf Tryd.prog 80 (.agg #[.int .i64 a,.int .i64 b])=some l:=by
 obtain⟨n,hn⟩:=z9g
 have h:Tryd.prog.keyLits (n+2) 80 [.int .i64 a,.int .i64 b]=some [.int .i64 a,.int .i64 b]:=by
  unfold Program.keyLits;rw[Tryd.underlying80];simp[y65,y6e,lits3 n ha,lits3 n hb]
 refine⟨.string (keyBytes [.int .i64 a,.int .i64 b]),?_⟩;unfold keyOf;rw[hn,Tryd.underlying80];simp[x3f,Value.formed,Tryd.underlying80,y65,Value.cells,h]
theorem x27 {a b c d e:Int} (ha:(Lit.int .i64 a).wf=true) (hb:(Lit.int .i64 b).wf=true) (hc:(Lit.int .i64 c).wf=true) (hd:(Lit.int .i64 d).wf=true) (he:(Lit.int .i64 e).wf=true):
  ∃ l,keyOf Tryd.prog 121 (.agg #[.int .i64 a,.int .i64 b,.int .i64 c,.int .i64 d,.int .i64 e])=some l:=by
 obtain⟨n,hn⟩:=z9g
 have h:Tryd.prog.keyLits (n+2) 121 [.int .i64 a,.int .i64 b,.int .i64 c,.int .i64 d,.int .i64 e]=some [.int .i64 a,.int .i64 b,.int .i64 c,.int .i64 d,.int .i64 e]:=by
  unfold Program.keyLits;rw[Tryd.underlying121];simp[y22,y6e,lits3 n ha,lits3 n hb,lits3 n hc,lits3 n hd,lits3 n he]
 refine⟨.string (keyBytes [.int .i64 a,.int .i64 b,.int .i64 c,.int .i64 d,.int .i64 e]),?_⟩;unfold keyOf;rw[hn,Tryd.underlying121];simp[x2c,Value.formed,Tryd.underlying121,y22,Value.cells,h]
end
structure Frm (S:Nat→Prop) (w w':World):Prop where
 os:w'.os=w.os
 tape:w'.tape=w.tape
 output:w'.output=w.output
 size:w.heap.size≤w'.heap.size
 block:∀ k,k<w.heap.size→¬ S k→w'.heap[k]?=w.heap[k]?
theorem Frm.refl (S:Nat→Prop) (w:World):Frm S w w:=⟨rfl,rfl,rfl,Nat.le_refl _,fun _ _ _=>rfl⟩
theorem Frm.mono {S S':Nat→Prop} {w w':World} (h:Frm S w w') (hS:∀ b,b<w.heap.size→S b→S' b):Frm S' w w':=⟨h.os,h.tape,h.output,h.size,fun k hk hn=>h.block k hk fun q=>hn (hS k hk q)⟩
theorem Frm.trans {S S':Nat→Prop} {a b c:World} (h:Frm S a b) (k:Frm S' b c) (hS:∀ x,x<a.heap.size→S' x→S x):Frm S a c:=
 ⟨k.os.trans h.os,k.tape.trans h.tape,k.output.trans h.output,Nat.le_trans h.size k.size,fun i hi hn=>(k.block i (Nat.lt_of_lt_of_le hi h.size) fun q=>hn (hS i hi q)).trans (h.block i hi hn)⟩
theorem Frm.of_below {S:Nat→Prop} {w w':World} (h:Below w.heap.size w w'):Frm S w w':=⟨h.os,h.tape,h.output,h.size,fun k hk _=>h.block k hk⟩
theorem Frm.of_grown {S:Nat→Prop} {w w':World} {row:Option Nat} (h:w.grownBy w' row) (hr:∀ k,row=some k→S k):Frm S w w':=⟨h.os,h.tape,h.output,h.size,fun k hk hn=>h.block k hk fun e=>hn (hr k e.symm)⟩
theorem Frm.alloc (S:Nat→Prop) (w:World) (o:Obj):Frm S w (w.alloc o):= .of_below (z0b w o)
theorem Frm.set {S:Nat→Prop} {b:Nat} (hS:S b) (o:Nat) (w:World) (u:Value):Frm S w (w.setCell ⟨b,o,none⟩ u):= .of_grown (z34 b o w u) fun k e=>by injection e with e;exact e ▸ hS
theorem Frm.below {S:Nat→Prop} {w w':World} {B:Nat} (h:Frm S w w') (hB:B≤w.heap.size) (hS:∀ b,b<B→¬ S b):Below B w w':=⟨h.os,h.tape,h.output,h.size,fun k hk=>h.block k (by omega) (hS k hk)⟩
def pv (p:Option Nat):Value:= .pointer (p.map fun a=>⟨a,0,none⟩)
inductive TrailP (w:World):Option Nat→Evs→Prop
 | nil:TrailP w none []
 | beg {a:Nat} {p:Option Nat} {n:Int} {i:Nat} {l:Evs}:w.heap[a]?=some (.cells #[pv p,pv none,.int .i64 n,.int .i64 (i:Nat),.int .i64 (-1)] 108)→0<n→n<10→TrailP w p l→TrailP w (some a) (⟨true,n,i⟩::l)
 | fin {a:Nat} {p:Option Nat} {n:Int} {i:Nat} {l:Evs}:w.heap[a]?=some (.cells #[pv p,pv none,.int .i64 n,.int .i64 (-1),.int .i64 (i:Nat)] 108)→0<n→n<10→TrailP w p l→TrailP w (some a) (⟨false,n,i⟩::l)
 | tim {a b:Nat} {p:Option Nat} {l l':Evs}:w.heap[a]?=some (.cells #[pv p,pv (some b),.int .i64 0,.int .i64 0,.int .i64 0] 108)→TrailP w p l→TrailP w (some b) l'→TrailP w (some a) (l'++l)
def NoMark (S:Nat→Prop) (w:World):Prop:=∀ b,S b→∀ X,w.heap[b]?≠some (.cells X 108)
theorem TrailP.keep {S:Nat→Prop} {w w':World} {p:Option Nat} {l:Evs} (h:TrailP w p l) (hf:Frm S w w') (hS:NoMark S w):TrailP w' p l:=by
 have k:∀ {a:Nat} {X:Array Value},w.heap[a]?=some (.cells X 108)→w'.heap[a]?=some (.cells X 108):=fun {a X} h=>by
  rw[hf.block a (Array.getElem?_eq_some_iff.mp h).1 (fun q=>hS a q X h)];exact h
 induction h with
 | nil=>exact .nil
 | beg h1 h2 h3 _ ih=>exact .beg (k h1) h2 h3 ih
 | fin h1 h2 h3 _ ih=>exact .fin (k h1) h2 h3 ih
 | tim h1 _ _ ih1 ih2=>exact .tim (k h1) ih1 ih2
def At14 (w:World) (b o:Nat) (x:Nd) (q:Int) (R:Option Addr) (rc:Nat) (K:Option Addr) (c:Nat):Prop:=
 w.cell? ⟨b,o,none⟩=some (.int .i64 x.r.kind)∧w.cell? ⟨b,o+1,none⟩=some (.int .u64 x.r.set.1.toNat)∧w.cell? ⟨b,o+2,none⟩=some (.int .u64 x.r.set.2.1.toNat)∧
 w.cell? ⟨b,o+3,none⟩=some (.int .u64 x.r.set.2.2.1.toNat)∧w.cell? ⟨b,o+4,none⟩=some (.int .u64 x.r.set.2.2.2.toNat)∧w.cell? ⟨b,o+5,none⟩=some (.slice R x.r.kids.length rc)∧
 w.cell? ⟨b,o+6,none⟩=some (.int .i64 x.r.lo)∧w.cell? ⟨b,o+7,none⟩=some (.int .i64 x.r.hi)∧w.cell? ⟨b,o+8,none⟩=some (.int .i64 x.r.num)∧
 w.cell? ⟨b,o+9,none⟩=some (.slice K x.kids.length c)∧w.cell? ⟨b,o+10,none⟩=some (.int .i64 q)∧
 w.cell? ⟨b,o+11,none⟩=some (.int .i64 x.nx)∧w.cell? ⟨b,o+12,none⟩=some (.bool (cntQ x.r))∧w.cell? ⟨b,o+13,none⟩=some (.bool (apartQ x.r))
theorem At14.keep {w w':World} {b o:Nat} {x:Nd} {q:Int} {R K:Option Addr} {rc c:Nat} (h:At14 w b o x q R rc K c) (hs:w'.heap[b]?=w.heap[b]?):At14 w' b o x q R rc K c:=by
 have k:∀ j,w'.cell? ⟨b,j,none⟩=w.cell? ⟨b,j,none⟩:=fun j=>World.cell?_of_block hs
 obtain⟨a0,a1,a2,a3,a4,a5,a6,a7,a8,a9,a10,a11,a12,a13⟩:=h;exact⟨(k _).trans a0,(k _).trans a1,(k _).trans a2,(k _).trans a3,(k _).trans a4,(k _).trans a5,(k _).trans a6,(k _).trans a7,(k _).trans a8,(k _).trans a9,(k _).trans a10,(k _).trans a11,(k _).trans a12,(k _).trans a13⟩
def IntsAt (P:Nat→Prop) (w:World) (K:Option Addr) (l:List Nat):Prop:=∀ (i m:Nat),l[i]?=some m→∃ g,K=some ⟨g,0,none⟩∧P g∧w.cell? ⟨g,i,none⟩=some (.int .i64 m)
def parQ (n:Nat) (x:Nd):Int:=if n=0 then -1 else x.par
def PartsAt (P:Nat→Prop) (w:World) (b:Nat) (T:List Nd):Prop:=P b∧∀ n x,T[n]?=some x→∃ R rc K c,At14 w b (n * 14) x (parQ n x) R rc K c∧IntsAt P w K x.kids
theorem PartsAt.keep {P:Nat→Prop} {w w':World} {b:Nat} {T:List Nd} (h:PartsAt P w b T) (hs:∀ k,P k→w'.heap[k]?=w.heap[k]?):PartsAt P w' b T:=⟨h.1,fun n x hx=>by
 obtain⟨R,rc,K,c,h1,h2⟩:=h.2 n x hx;refine⟨R,rc,K,c,h1.keep (hs _ h.1),fun i m hi=>?_⟩;obtain⟨g,e1,e2,e3⟩:=h2 i m hi;exact⟨g,e1,e2,(World.cell?_of_block (hs g e2)).trans e3⟩⟩
structure Cx where
 fb:Nat
 km:Nat
 pb:Nat
 pc:Nat
 T:List Nd
 s:ByteArray
 lim:Nat
def Cx.old (c:Cx) (b:Nat):Prop:=b≤c.fb∧b≠c.km
structure FinAt (c:Cx) (w:World):Prop where
 box:w.heap[c.fb]?=some (.cells #[.slice (some ⟨c.pb,0,none⟩) c.T.length c.pc,.string c.s,.int .i64 (c.lim:Nat),.map (some c.km)] 78)
 parts:PartsAt c.old w c.pb c.T
 km:c.km<c.fb
theorem FinAt.keep {c:Cx} {w w':World} {S:Nat→Prop} (h:FinAt c w) (hf:Frm S w w') (hS:∀ b,c.old b→¬ S b):FinAt c w':=by
 have hl:=(Array.getElem?_eq_some_iff.mp h.box).1;have k:∀ b,c.old b→w'.heap[b]?=w.heap[b]?:=fun b hb=>hf.block b (by have:=hb.1;omega) (hS b hb)
 exact⟨(k c.fb ⟨Nat.le_refl _,by have:=h.km;omega⟩).trans h.box,h.parts.keep k,h.km⟩
structure Trk where
 x:Spo
 tried:Nat
 tl:Option Nat
structure Way1 where
 stop:Nat
 tl:Option Nat
def trkC (t:Trk):List Value:=[.int .i64 (t.x.part:Nat),.int .i64 (t.x.done:Nat),.int .i64 (t.x.place:Nat),.int .i64 t.x.mover,.int .i64 (t.x.count:Nat),.int .i64 (t.tried:Nat),pv t.tl]
def wayC (x:Way1):List Value:=[.int .i64 (x.stop:Nat),pv x.tl]
def crowdV (x:Spo):Value:= .agg #[.int .i64 (x.part:Nat),.int .i64 (x.done:Nat),.int .i64 x.mover,.int .i64 (x.count:Nat),.int .i64 0]
def MetIs (w:World) (m:Nat) (C:Spo→Prop):Prop:=∃ f,MapIs 121 w m f∧(∀ key v,f key=some v→∃ n:Nat,n<2 ^ 64∧v= .int .u64 n)∧∀ x:Spo,x.place<64→(C x ↔ ∃ n:Nat,f (crowdV x)=some (.int .u64 n)∧n.testBit x.place=true)
structure WO where
 a:Nat
 part:Nat
 tv:Value
 tr:List Trk
 mp:Option Nat
 C:Spo→Prop
 fv:Value
 found:List Way1
def WO.own (o:WO) (b:Nat):Prop:=b=o.a∨o.tv.ownBlock=some b∨o.fv.ownBlock=some b∨o.mp=some b
structure WaysAt (fb:Nat) (w:World) (o:WO):Prop where
 box:w.heap[o.a]?=some (.cells #[.pointer (some ⟨fb,0,none⟩),.int .i64 (o.part:Nat),o.tv,.map o.mp,o.fv] 86)
 gt:fb<o.a
 tr:w.ownsRow (fb+1) 89 7 o.tv o.tr.length (o.tr.flatMap trkC)
 found:w.ownsRow (fb+1) 58 2 o.fv o.found.length (o.found.flatMap wayC)
 met:∀ m,o.mp=some m→fb<m∧MetIs w m o.C
theorem rowK {w w':World} {B e s n:Nat} {v:Value} {xs:List Value} (h:w.ownsRow B e s v n xs) (hb:∀ b,v.ownBlock=some b→w'.heap[b]?=w.heap[b]?):w'.ownsRow B e s v n xs:=by
 refine⟨h.1,h.2.imp id ?_⟩;rintro⟨g,cap,cur,rfl,h2,h3,h4⟩;exact⟨g,cap,cur,rfl,h2,(hb g rfl).trans h3,h4⟩
theorem WaysAt.keep {fb:Nat} {w w':World} {o:WO} (h:WaysAt fb w o) (hb:∀ b,o.own b→w'.heap[b]?=w.heap[b]?):WaysAt fb w' o:=
 ⟨(hb _ (.inl rfl)).trans h.box,h.gt,rowK h.tr fun b q=>hb b (.inr (.inl q)),rowK h.found fun b q=>hb b (.inr (.inr (.inl q))),fun m hm=>by
   obtain⟨h1,f,h2,h3⟩:=h.met m hm;exact⟨h1,f,h2.keep (hb m (.inr (.inr (.inr hm)))),h3⟩⟩
theorem WaysAt.kind {fb:Nat} {w:World} {o:WO} (h:WaysAt fb w o) {b:Nat} (hb:o.own b):fb<b∧b<w.heap.size∧
  ((b=o.a∧∃ X,w.heap[b]?=some (.cells X 86))∨(o.tv.ownBlock=some b∧∃ X,w.heap[b]?=some (.cells X 89))∨(o.fv.ownBlock=some b∧∃ X,w.heap[b]?=some (.cells X 58))∨(o.mp=some b∧∃ X k,w.heap[b]?=some (.map X k))):=by
 have row:∀ {e s n:Nat} {v:Value} {xs:List Value},w.ownsRow (fb+1) e s v n xs→v.ownBlock=some b→fb<b∧b<w.heap.size∧∃ X,w.heap[b]?=some (.cells X e):=fun {e s n v xs} h1 h2=>by
  rcases h1.2 with ⟨rfl,_⟩ | ⟨g,cap,cur,rfl,q1,q2,_⟩
  ·cases h2
  ·have:g=b:=by simpa[Value.ownBlock] using h2
   subst this;exact⟨by omega,(Array.getElem?_eq_some_iff.mp q2).1,cur,q2⟩
 rcases hb with rfl | hb | hb | hb
 ·exact⟨h.gt,(Array.getElem?_eq_some_iff.mp h.box).1,.inl ⟨rfl,_,h.box⟩⟩
 ·obtain⟨q1,q2,q3⟩:=row h.tr hb;exact⟨q1,q2,.inr (.inl ⟨hb,q3⟩)⟩
 ·obtain⟨q1,q2,q3⟩:=row h.found hb;exact⟨q1,q2,.inr (.inr (.inl ⟨hb,q3⟩))⟩
 ·obtain⟨q1,f,q2,_⟩:=h.met b hb
  obtain⟨es,clock,q3,_⟩:=q2;exact⟨q1,(Array.getElem?_eq_some_iff.mp q3).1,.inr (.inr (.inr ⟨hb,es,clock,q3⟩))⟩
theorem WaysAt.noMark {fb:Nat} {w:World} {o:WO} (h:WaysAt fb w o):NoMark o.own w:=fun b hb X hX=>by
 obtain⟨_,_,h1⟩:=h.kind hb
 rcases h1 with ⟨_,Y,h1⟩ | ⟨_,Y,h1⟩ | ⟨_,Y,h1⟩ | ⟨_,Y,k,h1⟩ <;> rw[hX] at h1 <;> simp at h1
structure Mt (fb:Nat) (o:WO) (w:World) (o':WO) (w':World):Prop where
 fr:Frm o.own w w'
 at_:WaysAt fb w' o'
 own:∀ b,o'.own b→o.own b∨w.heap.size≤b
 a:o'.a=o.a
 part:o'.part=o.part
theorem Mt.refl {fb:Nat} {o:WO} {w:World} (h:WaysAt fb w o):Mt fb o w o w:=⟨Frm.refl _ _,h,fun _ h=> .inl h,rfl,rfl⟩
theorem Mt.trans {fb:Nat} {o o' o2:WO} {w w' w2:World} (h:Mt fb o w o' w') (k:Mt fb o' w' o2 w2):Mt fb o w o2 w2:=
 ⟨h.fr.trans k.fr fun x hx q=>(h.own x q).resolve_right (by omega),k.at_,fun b hb=>(k.own b hb).elim (h.own b) fun q=> .inr (Nat.le_trans h.fr.size q),k.a.trans h.a,k.part.trans h.part⟩
theorem Mt.pre {fb:Nat} {o o2:WO} {w w' w2:World} (h:WaysAt fb w o) (hb:Below w.heap.size w w') (k:Mt fb o w' o2 w2):Mt fb o w o2 w2:=
 (⟨.of_below hb,h.keep fun b q=>hb.block b (h.kind q).2.1,fun _ h=> .inl h,rfl,rfl⟩:Mt fb o w o w').trans k
section
set_option linter.unusedSimpArgs false
theorem TrailP.new {w:World} {p:Option Nat} {l:Evs} (h:TrailP w p l) (o:Obj):TrailP (w.alloc o) p l:=h.keep (Frm.alloc (fun _=>False) w o) fun _ h=>h.elim
theorem y34 (p:Option Nat) (n:Int) (i:Nat) (hn:0≤n∧n<10) (w:World):
  Calls Tryd.prog 56 #[pv p,.int .i64 n,.int .i64 (i:Nat)] w fun e w'=>∃ p',e= .returned (pv p')∧Below w.heap.size w w'∧∀ l,TrailP w p l→TrailP w' p' (mark true n i l):=by
 by_cases h0:n=0
 ·subst h0
  obtain⟨v,hv⟩:∃ v,.pointer v=pv p:=⟨_,rfl⟩;have HV:=Lib.hid hv;rw[←hv];clear hv;go_enter Tryd.func56,Tryd.ntmps56;go_wp2;go_ret;exact⟨p,by rw[←HV.out];rfl,Below.refl _ _,fun l h=>by unfold mark;rw[if_pos rfl];exact h⟩
 ·have h1:(n==0)=false:=by simp[h0]
  obtain⟨v,hv⟩:∃ v,.pointer v=pv p:=⟨_,rfl⟩;have HV:=Lib.hid hv;have HN:=Lib.hid hn;have H0:=Lib.hid h0;rw[←hv];clear hv hn h0;go_enter Tryd.func56,Tryd.ntmps56;go_wp2;go_ret;refine⟨some w.heap.size,rfl,z0b _ _,fun l h=>?_⟩;unfold mark;rw[if_neg H0.out];exact .beg (by rw[heap_alloc_new,←HV.out];rfl) (by have:=HN.out;have:=H0.out;omega) HN.out.2 (h.new _)
theorem y9u (p:Option Nat) (n:Int) (i:Nat) (hn:0≤n∧n<10) (w:World):
  Calls Tryd.prog 62 #[pv p,.int .i64 n,.int .i64 (i:Nat)] w fun e w'=>∃ p',e= .returned (pv p')∧Below w.heap.size w w'∧∀ l,TrailP w p l→TrailP w' p' (mark false n i l):=by
 by_cases h0:n=0
 ·subst h0
  obtain⟨v,hv⟩:∃ v,.pointer v=pv p:=⟨_,rfl⟩;have HV:=Lib.hid hv;rw[←hv];clear hv;go_enter Tryd.func62,Tryd.ntmps62;go_wp2;go_ret;exact⟨p,by rw[←HV.out];rfl,Below.refl _ _,fun l h=>by unfold mark;rw[if_pos rfl];exact h⟩
 ·have h1:(n==0)=false:=by simp[h0]
  obtain⟨v,hv⟩:∃ v,.pointer v=pv p:=⟨_,rfl⟩;have HV:=Lib.hid hv;have HN:=Lib.hid hn;have H0:=Lib.hid h0;rw[←hv];clear hv hn h0;go_enter Tryd.func62,Tryd.ntmps62;go_wp2;go_ret;refine⟨some w.heap.size,rfl,z0b _ _,fun l h=>?_⟩;unfold mark;rw[if_neg H0.out];exact .fin (by rw[heap_alloc_new,←HV.out];rfl) (by have:=HN.out;have:=H0.out;omega) HN.out.2 (h.new _)
theorem TrailP.inv {w:World} {a:Nat} {l:Evs} (h:TrailP w (some a) l):∃ p wi n i j,w.heap[a]?=some (.cells #[pv p,pv wi,.int .i64 n,.int .i64 i,.int .i64 j] 108)∧
  ∀ b,wi=some b→∃ l1 l2,TrailP w (some b) l2∧l=l2++l1:=by
 cases h with
 | beg h1 _ _ _=>exact⟨_,_,_,_,_,h1,fun b e=>by cases e⟩
 | fin h1 _ _ _=>exact⟨_,_,_,_,_,h1,fun b e=>by cases e⟩
 | tim h1 h2 h3=>exact⟨_,_,_,_,_,h1,fun b e=>by injection e with e;subst e;exact⟨_,_,h3,rfl⟩⟩
theorem z5v {p q:Option Nat} (h:pv p=pv q):p=q:=by
 cases p <;> cases q <;> simp_all [pv]
theorem TrailP.det {w:World} {p:Option Nat} {l:Evs} (h:TrailP w p l):∀ {l'},TrailP w p l'→l'=l:=by
 induction h with
 | nil=>intro l' h';cases h';rfl
 | beg h1 h2 h3 _ ih=>
   intro l' h'
   cases h' with
   | beg g1 _ _ g4=>rw[h1] at g1;simp at g1;obtain⟨e1,e2,e3⟩:=g1;rw[←z5v e1] at g4;have e4:(_:Nat)=_:=Int.ofNat.inj e3;rw[ih g4,e2,e4]
   | fin g1 _ _ g4=>rw[h1] at g1;simp at g1
   | tim g1 _ _=>rw[h1] at g1;simp[pv] at g1
 | fin h1 h2 h3 _ ih=>
   intro l' h'
   cases h' with
   | beg g1 _ _ g4=>rw[h1] at g1;simp at g1
   | fin g1 _ _ g4=>rw[h1] at g1;simp at g1;obtain⟨e1,e2,e3⟩:=g1;rw[←z5v e1] at g4;have e4:(_:Nat)=_:=Int.ofNat.inj e3;rw[ih g4,e2,e4]
   | tim g1 _ _=>rw[h1] at g1;simp[pv] at g1
 | tim h1 _ _ ih1 ih2=>
   intro l' h'
   cases h' with
   | beg g1 _ _ g4=>rw[h1] at g1;simp[pv] at g1
   | fin g1 _ _ g4=>rw[h1] at g1;simp[pv] at g1
   | tim g1 g2 g3=>rw[h1] at g1;simp at g1;obtain⟨e1,e2⟩:=g1;rw[←z5v e1] at g2;have:=z5v e2;injection this with this;subst this;rw[ih1 g2,ih2 g3]
theorem y6b:(Tryd.prog.info? 108).map (fun i=>i.size)=some 5:=by kernel_rfl
theorem y7j (a:Addr) (w:World):(binOp .eql 56 (.pointer (some a)) (.pointer (some a))).run Tryd.prog w= .ok (.bool true) w:=by
 obtain⟨i,hi,_⟩:=Option.map_eq_some_iff.1 y6b;exact run_eql_ptr_same w a Tryd.underlying56 hi
theorem y3z {a b:Addr} {w:World} (hne:a≠b) (ha:∃ X,w.heap[a.block]?=some (.cells X 108)) (hb:∃ X,w.heap[b.block]?=some (.cells X 108)):(binOp .eql 56 (.pointer (some a)) (.pointer (some b))).run Tryd.prog w= .ok (.bool false) w:=by
 obtain⟨i,hi,hz⟩:=Option.map_eq_some_iff.1 y6b;obtain⟨X,hX⟩:=ha;obtain⟨Y,hY⟩:=hb;exact run_eql_ptr_other w Tryd.underlying56 hi (by rw[hz];decide) hne hX hY
theorem y8x (b:Addr) (w:World):(binOp .eql 56 (.pointer none) (.pointer (some b))).run Tryd.prog w= .ok (.bool false) w:=by
 have h:∀ d:Nat,(Op.equalIn (d+1) 56 (.pointer none) (.pointer (some b))).run Tryd.prog w= .ok false w:=fun d=>by
  simp[Op.equalIn,run_underlying Tryd.underlying56]
 simp only[binOp];simp[Op.equal,Op.maxDepth,h 9999]
def GoPost (w:World) (p q:Option Nat) (e:Ending) (w':World):Prop:=∃ p',e= .returned (pv p')∧Below w.heap.size w w'∧∀ l le,TrailP w p l→TrailP w q le→∃ l',TrailP w' p' l'∧SameE l' (le++l)
theorem y6h {w:World} {p q:Option Nat} (h:∀ l le,TrailP w p l→TrailP w q le→SameE l (le++l)):GoPost w p q (.returned (pv p)) w:=⟨p,rfl,Below.refl _ _,fun l le h1 h2=>⟨l,h1,h l le h1 h2⟩⟩
theorem x0c (w:World) (p:Option Nat) (b:Nat):GoPost w p (some b) (.returned (pv (some w.heap.size))) (w.alloc (.cells #[pv p,pv (some b),.int .i64 0,.int .i64 0,.int .i64 0] 108)):=
 ⟨some w.heap.size,rfl,z0b _ _,fun l le h1 h2=>⟨le++l,.tim (heap_alloc_new w _) (h1.new _) (h2.new _),SameE.refl _⟩⟩
theorem y14 (p q:Option Nat) (w:World) (hp:∃ l,TrailP w p l) (hq:∃ l,TrailP w q l):Calls Tryd.prog 61 #[pv p,pv q] w (GoPost w p q):=by
 cases q with
 | none=>
   have h1:=Lib.hid (y6h (w:=w) (p:=p) (q:=none) fun l le h1 h2=>by cases h2;exact SameE.refl _);obtain⟨v,hv⟩:∃ v,.pointer v=pv p:=⟨_,rfl⟩;rw[←hv] at h1 ⊢;clear hv hp hq;unfold pv;simp only[Option.map_none];go_enter Tryd.func61,Tryd.ntmps61;go_wp2;go_ret;exact h1.out
 | some b=>
   cases p with
   | none=>
     have h2:=Lib.hid (x0c w none b);unfold pv at h2 ⊢;simp only[Option.map_none,Option.map_some] at h2 ⊢;clear hp hq;go_enter Tryd.func61,Tryd.ntmps61;go_wp2;go_ret;exact h2.out
   | some a=>
     obtain⟨l,hl⟩:=hp;obtain⟨_,hlq⟩:=hq;obtain⟨_,_,_,_,_,hb1,_⟩:=hlq.inv;obtain⟨p1,wi,n,i,j,h1,h2⟩:=hl.inv;have hsame:=y7j;have c1:w.cell? ⟨a,1,none⟩=some (pv wi):=(cell_of_row w a 1 _ 108 (0,0) h1).trans rfl;by_cases hw:wi=some b
     ·subst hw
      obtain⟨l1,l2,g1,g2⟩:=h2 b rfl
      have h3:=Lib.hid (y6h (w:=w) (p:=some a) (q:=some b) fun l' le k1 k2=>by
       rw[hl.det k1,g2,←g1.det k2];exact SameE.twice (SameE.refl _) (SameE.refl _))
      clear h1 h2 g1 g2 hl hb1;unfold pv at c1 h3 ⊢;simp only[Option.map_some] at c1 h3 ⊢;go_enter Tryd.func61,Tryd.ntmps61;go_wp2;go_ret;exact h3.out
     ·have h3:=Lib.hid (x0c w (some a) b)
      clear hsame
      cases wi with
      | none=>
        have heq:=y8x ⟨b,0,none⟩;clear h1 h2 hl hb1;unfold pv at c1 h3 ⊢;simp only[Option.map_some,Option.map_none] at c1 h3 ⊢;go_enter Tryd.func61,Tryd.ntmps61;go_wp2;go_ret;exact h3.out
      | some z=>
        obtain⟨_,_,g1,_⟩:=h2 z rfl;obtain⟨_,_,_,_,_,hz1,_⟩:=g1.inv;have heq:=y3z (w:=w) (a:=⟨z,0,none⟩) (b:=⟨b,0,none⟩) (fun e=>hw (by injection e with e;rw[e])) ⟨_,hz1⟩ ⟨_,hb1⟩;clear h1 h2 hl hb1 hz1 g1 hw;unfold pv at c1 h3 ⊢;simp only[Option.map_some] at c1 h3 ⊢;go_enter Tryd.func61,Tryd.ntmps61;go_wp2;go_ret;exact h3.out
theorem y6m {w:World} {b o:Nat} {x:Nd} {q:Int} {R K:Option Addr} {rc c:Nat} (h:At14 w b o x q R rc K c) {i:Nat} (hi:i<4):w.cell? ⟨b,o+1+i,none⟩=some (.int .u64 (wd x.r.set i).toNat):=by
 obtain⟨_,a1,a2,a3,a4,_⟩:=h;have h:i=0∨i=1∨i=2∨i=3:=by omega
 rcases h with rfl | rfl | rfl | rfl
 ·exact a1
 ·exact a2
 ·exact a3
 ·exact a4
theorem z6m {w:World} {b o:Nat} {x:Nd} {p:Int} {R K:Option Addr} {rc k:Nat} (h:At14 w b o x p R rc K k) (c:Nat) (hc:c<256):
  Calls Tryd.prog 58 #[.pointer (some ⟨b,o,none⟩),.int .u8 c] w fun e w'=>e= .returned (.bool (mem x.r.set c))∧w'=w:=by
 have hq:c / 64<4:=by omega
 have h0:=y6m h hq;obtain⟨y,hy⟩:∃ y,y=(wd x.r.set (c / 64)).toNat:=⟨_,rfl⟩;rw[←hy] at h0;have hyl:y<18446744073709551616:=by rw[hy];exact UInt64.toNat_lt _
 obtain⟨q,hq2⟩:∃ q,q=c / 64:=⟨_,rfl⟩;obtain⟨m,hm2⟩:∃ m,m=c % 64:=⟨_,rfl⟩;rw[←hq2] at h0 hq;have e1:(c:Int) / 64=(q:Int):=by omega
 have e2:(c:Int) % 64=(m:Int):=by omega
 have hm:m<64:=by omega
 obtain⟨t,ht⟩:∃ t:Nat,t=if y.testBit m then 1 else 0:=⟨_,rfl⟩
 have e3:=y01 y m hyl ht
 have hv:mem x.r.set c=(t != 0):=by
  unfold mem;rw[ht,hm2,hy]
  cases (wd x.r.set (c / 64)).toNat.testBit (c % 64) <;> rfl
 rw[hv];clear hv ht h hq2 hm2 hy;go_enter Tryd.func58,Tryd.ntmps58;go_wp2;go_ret;exact⟨z0n (by cases ht2:(t != 0) <;> simp at ht2 ⊢ <;> omega),rfl⟩
theorem y2o {w:World} {b o:Nat} {x:Nd} {p:Int} {R K:Option Addr} {rc k:Nat} (h:At14 w b o x p R rc K k) (n:Nat):
  Calls Tryd.prog 59 #[.pointer (some ⟨b,o,none⟩),.int .i64 (n:Nat)] w fun e w'=>e= .returned (.bool (moreQ x.r n))∧w'=w:=by
 have a7:=h.2.2.2.2.2.2.2.1;clear h;unfold moreQ;obtain⟨hi,hhi⟩:∃ hi,hi=x.r.hi:=⟨_,rfl⟩;rw[←hhi] at a7 ⊢;clear hhi;by_cases h0:hi<0
 ·have h1:decide (hi<0)=true:=by simpa using h0
  rw[h1,Bool.true_or];go_enter Tryd.func59,Tryd.ntmps59;go_wp2;go_ret;exact⟨rfl,rfl⟩
 ·have h1:decide (hi<0)=false:=by simpa using h0
  rw[h1,Bool.false_or];go_enter Tryd.func59,Tryd.ntmps59;go_wp2;go_ret;exact⟨rfl,rfl⟩
theorem z4o {w:World} {b o:Nat} {x:Nd} {p:Int} {R K:Option Addr} {rc k:Nat} (h:At14 w b o x p R rc K k) (n:Nat) (hn:n≤1000000) (hF:Fine x.r) (hk:x.r.kind=6):
  Calls Tryd.prog 60 #[.pointer (some ⟨b,o,none⟩),.int .i64 (n:Nat)] w fun e w'=>e= .returned (.int .i64 (oneM x.r n:Nat))∧Below w.heap.size w w':=by
 have a6:=h.2.2.2.2.2.2.1;have a7:=h.2.2.2.2.2.2.2.1;clear h;obtain⟨_,h1,h2,h3⟩:=hF.six hk;clear hF hk;obtain⟨hi,hhi⟩:∃ hi,hi=x.r.hi:=⟨_,rfl⟩;obtain⟨lo,hlo⟩:∃ lo,lo=x.r.lo:=⟨_,rfl⟩;have e:((oneM x.r n:Nat):Int)=min ((n:Int)+1) (max lo hi):=by unfold oneM topM;omega
 rw[e];rw[←hhi] at a7 h3;rw[←hlo] at a6 h1 h2 h3;clear e hhi hlo;go_enter Tryd.func60,Tryd.ntmps60;go_wp2
 go_region
 all_goals go_wp2
 all_goals go_ret
 all_goals exact⟨rfl,(Below.refl _ _).drew⟩
end
def trkV (t:Trk):Value:= .agg #[.int .i64 (t.x.part:Nat),.int .i64 (t.x.done:Nat),.int .i64 (t.x.place:Nat),.int .i64 t.x.mover,.int .i64 (t.x.count:Nat),.int .i64 (t.tried:Nat),pv t.tl]
theorem y8d (t:Trk):(trkC t).length=7:=rfl
theorem y1z:(Tryd.prog.info? 89).map (fun i=>(i.zero,i.size,i.bytes))=some (some (.agg #[.int .i64 0,.int .i64 0,.int .i64 0,.int .i64 0,.int .i64 0,.int .i64 0,.pointer none]),7,56):=by kernel_rfl
theorem z8z (l:List Trk):(l.flatMap trkC).length=l.length * 7:=by
 induction l with
 | nil=>rfl
 | cons t l ih=>rw[List.flatMap_cons,List.length_append,y8d,ih,List.length_cons];omega
theorem z0c {W:World} {b T:Nat} {cs:Array Value} (h:W.heap[b]?=some (.cells cs T)) (j:Nat):W.cell? ⟨b,j,none⟩=cs[j]?:=cell_of_row _ _ j cs T (0,0) h
theorem z0m {W:World} {b T:Nat} {cs:Array Value} (h:W.heap[b]?=some (.cells cs T)) (j:Nat):W.frozen? ⟨b,j,none⟩=false:=frozen_of_row _ _ j _ T h
theorem z3y {w:World} {B e s n:Nat} {v:Value} {xs:List Value} (h:w.ownsRow B e s v n xs) {b:Nat} (hb:v.ownBlock=some b):∃ X,w.heap[b]?=some (.cells X e):=by
 rcases h.2 with ⟨rfl,_⟩ | ⟨g,cap,cur,rfl,_,q2,_⟩
 ·cases hb
 ·have:g=b:=by simpa[Value.ownBlock] using hb
  subst this;exact⟨cur,q2⟩
structure Apart4 (o:WO):Prop where
 ta:o.tv.ownBlock≠some o.a
 fa:o.fv.ownBlock≠some o.a
 ma:o.mp≠some o.a
 tf:∀ b,o.tv.ownBlock=some b→o.fv.ownBlock≠some b
 tm:∀ b,o.tv.ownBlock=some b→o.mp≠some b
 fm:∀ b,o.fv.ownBlock=some b→o.mp≠some b
theorem WaysAt.apart {fb:Nat} {w:World} {o:WO} (h:WaysAt fb w o):Apart4 o:=by
 have m:∀ b,o.mp=some b→∃ X k,w.heap[b]?=some (.map X k):=fun b hb=>by
  obtain⟨_,f,⟨es,clock,q,_⟩,_⟩:=h.met b hb;exact⟨es,clock,q⟩
 refine⟨fun e=>?_,fun e=>?_,fun e=>?_,fun b e e'=>?_,fun b e e'=>?_,fun b e e'=>?_⟩
 ·obtain⟨X,q⟩:=z3y h.tr e;have:=h.box;rw[q] at this;simp at this
 ·obtain⟨X,q⟩:=z3y h.found e;have:=h.box;rw[q] at this;simp at this
 ·obtain⟨X,k,q⟩:=m _ e;have:=h.box;rw[q] at this;simp at this
 ·obtain⟨X,q⟩:=z3y h.tr e;obtain⟨Y,q'⟩:=z3y h.found e';rw[q] at q';simp at q'
 ·obtain⟨X,q⟩:=z3y h.tr e;obtain⟨Y,k,q'⟩:=m _ e';rw[q] at q';simp at q'
 ·obtain⟨X,q⟩:=z3y h.found e;obtain⟨Y,k,q'⟩:=m _ e';rw[q] at q';simp at q'
theorem y57 {fb:Nat} {w W w5:World} {o:WO} {t:Trk} (h:WaysAt fb w o) (hb:Below w.heap.size w W) (hs:w.heap.size<W.heap.size) {g cap:Nat}
  (hown:w5.ownsRow (fb+1) 89 7 (.slice (some ⟨g,0,none⟩) (o.tr.length+1) cap) (o.tr.length+1) (o.tr.flatMap trkC++trkC t)) (hg:W.grownBy w5 o.tv.ownBlock) (hat:o.tv.ownBlock=some g∨g=W.heap.size):
  Mt fb o w { o with tv:= .slice (some ⟨g,0,none⟩) (o.tr.length+1) cap,tr:=o.tr++[t] } (w5.setCell ⟨o.a,2,none⟩ (.slice (some ⟨g,0,none⟩) (o.tr.length+1) cap))∧
   w5.heap[o.a]?=w.heap[o.a]?∧w5.heap[w.heap.size]?=W.heap[w.heap.size]?:=by
 have ha:=h.kind (b:=o.a) (.inl rfl);have hW:∀ k,k<W.heap.size→o.tv.ownBlock≠some k→w5.heap[k]?=W.heap[k]?:=fun k hk hne=>hg.block k hk fun e=>hne e.symm
 have tlt:∀ k,o.tv.ownBlock=some k→k<w.heap.size:=fun k hk=>(h.kind (.inr (.inl hk))).2.1
 have ap:=h.apart;have tya:=ap.ta;have ea:w5.heap[o.a]?=w.heap[o.a]?:=(hW _ (by omega) tya).trans (hb.block _ ha.2.1)
 have hga:g≠o.a:=fun e=>by
  rcases hat with q | q
  ·exact tya (by rw[q,e])
  ·omega
 have hset:∀ k,k≠o.a→(w5.setCell ⟨o.a,2,none⟩ (.slice (some ⟨g,0,none⟩) (o.tr.length+1) cap)).heap[k]?=w5.heap[k]?:=fun k hk=>Below.heap_setCell _ _ _ _ hk
 have keep:∀ k,k<w.heap.size→k≠o.a→o.tv.ownBlock≠some k→(w5.setCell ⟨o.a,2,none⟩ (.slice (some ⟨g,0,none⟩) (o.tr.length+1) cap)).heap[k]?=w.heap[k]?:=fun k h1 h2 h3=>by
  rw[hset k h2,hW k (by omega) h3];exact hb.block k h1
 refine⟨⟨⟨?_,?_,?_,?_,fun k hk hn=>keep k hk (fun e=>hn (.inl e)) (fun e=>hn (.inr (.inl e)))⟩,⟨?_,h.gt,?_,?_,?_⟩,?_,rfl,rfl⟩,ea,?_⟩
 ·exact hg.os.trans hb.os
 ·exact hg.tape.trans hb.tape
 ·exact hg.output.trans hb.output
 ·have:=hg.size;have:=hb.size;simp only[World.size_setCell];omega
 ·rw[heap_setCell_same _ _ _ _ _ _ (ea.trans h.box)];rfl
 ·rw[List.length_append,List.length_singleton,List.flatMap_append]
  simp only[List.flatMap_cons,List.flatMap_nil,List.append_nil]
  exact rowK hown fun b hb=>hset b (fun e=>hga (by have:g=b:=by simpa[Value.ownBlock] using hb
                                                   rw[this,e]))
 ·exact rowK h.found fun b hb=>keep b (h.kind (.inr (.inr (.inl hb)))).2.1 (fun e=>ap.fa (by rw[hb,e])) (fun e=>ap.tf b e hb)
 ·intro m hm
  obtain⟨q1,f,q2,q3⟩:=h.met m hm;exact⟨q1,f,q2.keep (keep m q2.lt (fun e=>ap.ma (by rw[hm,e])) (fun e=>ap.tm m e hm)),q3⟩
 ·rintro b (rfl | hb | hb | hb)
  ·exact .inl (.inl rfl)
  ·have:g=b:=by simpa[Value.ownBlock] using hb
   subst this
   rcases hat with q | q
   ·exact .inl (.inr (.inl q))
   ·exact .inr (by omega)
  ·exact .inl (.inr (.inr (.inl hb)))
  ·exact .inl (.inr (.inr (.inr hb)))
 ·exact hW _ hs fun e=>by have:=tlt _ e;omega
abbrev ldTr:Op:= .load 83 (.tmp 8)
theorem z44 (p1 p2 p3 p4 p5 p6:Int) (p7:Option Addr):∀ u∈[Value.int .i64 p1,.int .i64 p2,.int .i64 p3,.int .i64 p4,.int .i64 p5,.int .i64 p6,.pointer p7],u.oneCell'=true:=by
 intro u hu;simp only[List.mem_cons,List.not_mem_nil,or_false] at hu
 rcases hu with rfl | rfl | rfl | rfl | rfl | rfl | rfl <;> rfl
theorem y9v {B a N c:Nat} {A:Option Addr} {w:World} {cs:List Value} {X:Array Value} (P:World→Prop) (p1 p2 p3 p4 p5 p6:Int) (p7:Option Addr) (hrow:w.ownsRow B 89 7 (.slice A N c) N cs) (hbox:w.heap[a]?=some (.cells X 86)) (h2:X[2]?=some (.slice A N c))
  (hN:N≤1000000000000) (hB:B≤w.heap.size)
  (HC:∀ (W w5:World) (g cap:Nat),Below w.heap.size w W→w.heap.size<W.heap.size→w5.ownsRow B 89 7 (.slice (some ⟨g,0,none⟩) (N+1) cap) (N+1) (cs++[.int .i64 p1,.int .i64 p2,.int .i64 p3,.int .i64 p4,.int .i64 p5,.int .i64 0,.pointer p7])→
   W.grownBy w5 (Value.slice A N c).ownBlock→((Value.slice A N c).ownBlock=some g∨g=W.heap.size)→P (w5.setCell ⟨a,2,none⟩ (.slice (some ⟨g,0,none⟩) (N+1) cap))):
  Calls Tryd.prog 29 #[.pointer (some ⟨a,0,none⟩),.agg #[.int .i64 p1,.int .i64 p2,.int .i64 p3,.int .i64 p4,.int .i64 p5,.int .i64 p6,.pointer p7]] w fun e w'=>e= .returned (.tuple #[])∧Hid (P w'):=by
 obtain⟨i0,hi0,hz0,hz1,hz2⟩:=info_parts y1z;have hal:a<w.heap.size:=(Array.getElem?_eq_some_iff.mp hbox).1;have hra:(Value.slice A N c).ownBlock≠some a:=fun e=>by obtain⟨Y,q⟩:=z3y hrow e;rw[q] at hbox;simp at hbox
 have hrl:(Value.slice A N c).ownBlock≠some w.heap.size:=fun e=>by obtain⟨Y,q⟩:=z3y hrow e;have:=(Array.getElem?_eq_some_iff.mp q).1;omega
 obtain⟨bx,hbx⟩:∃ o:Obj,o= .cells #[.int .i64 p1,.int .i64 p2,.int .i64 p3,.int .i64 p4,.int .i64 p5,.int .i64 0,.pointer p7] 89:=⟨_,rfl⟩
 have HS:Hid (∀ W:World,W.heap[w.heap.size]?=some (.cells #[.int .i64 p1,.int .i64 p2,.int .i64 p3,.int .i64 p4,.int .i64 p5,.int .i64 0,.pointer p7] 89)→
   W.cell? ⟨w.heap.size,0,none⟩=some (.int .i64 p1)∧W.cell? ⟨w.heap.size,1,none⟩=some (.int .i64 p2)∧W.cell? ⟨w.heap.size,2,none⟩=some (.int .i64 p3)∧W.cell? ⟨w.heap.size,3,none⟩=some (.int .i64 p4)∧W.cell? ⟨w.heap.size,4,none⟩=some (.int .i64 p5)∧W.cell? ⟨w.heap.size,5,none⟩=some (.int .i64 0)∧W.cell? ⟨w.heap.size,6,none⟩=some (.pointer p7)):=Lib.hid fun W e2=>by
  have l:=z0c e2;exact⟨(l 0).trans rfl,(l 1).trans rfl,(l 2).trans rfl,(l 3).trans rfl,(l 4).trans rfl,(l 5).trans rfl,(l 6).trans rfl⟩
 have HB:=Lib.hid (z0b w);have HBX:=Lib.hid hbox;have HRW:=Lib.hid hrow;have HL:=Lib.hid (And.intro hal (And.intro hra hrl));have HZ:=Lib.hid (And.intro hN hB);have HCC:=Lib.hid HC;have hW1:(w.alloc (.cells #[Value.int .i64 p1,.int .i64 p2,.int .i64 p3,.int .i64 p4,.int .i64 p5,.int .i64 0,.pointer p7] 89)).heap[w.heap.size]?=some (.cells #[Value.int .i64 p1,.int .i64 p2,.int .i64 p3,.int .i64 p4,.int .i64 p5,.int .i64 0,.pointer p7] 89):=heap_alloc_new w _;have hW1a:(w.alloc (.cells #[Value.int .i64 p1,.int .i64 p2,.int .i64 p3,.int .i64 p4,.int .i64 p5,.int .i64 0,.pointer p7] 89)).heap[a]?=some (.cells X 86):=((z0b w _).block a hal).trans hbox;have HS1:=Lib.hid (HS.out (w.alloc (.cells #[Value.int .i64 p1,.int .i64 p2,.int .i64 p3,.int .i64 p4,.int .i64 p5,.int .i64 0,.pointer p7] 89)).drew hW1);have hcA:(w.alloc (.cells #[Value.int .i64 p1,.int .i64 p2,.int .i64 p3,.int .i64 p4,.int .i64 p5,.int .i64 0,.pointer p7] 89)).drew.cell? ⟨a,2,none⟩=some (.slice A N c):=(z0c hW1a 2).trans h2;have hb2:Below (w.heap.size+1) (w.alloc (.cells #[Value.int .i64 p1,.int .i64 p2,.int .i64 p3,.int .i64 p4,.int .i64 p5,.int .i64 0,.pointer p7] 89)).drew ((w.alloc (.cells #[Value.int .i64 p1,.int .i64 p2,.int .i64 p3,.int .i64 p4,.int .i64 p5,.int .i64 0,.pointer p7] 89)).drew.alloc (.cells #[Value.int .i64 p1,.int .i64 p2,.int .i64 p3,.int .i64 p4,.int .i64 p5,.int .i64 0,.pointer p7] 89)):=(Below.refl _ _).alloc (by simp) _;have HS2:=Lib.hid (HS.out ((w.alloc (.cells #[Value.int .i64 p1,.int .i64 p2,.int .i64 p3,.int .i64 p4,.int .i64 p5,.int .i64 0,.pointer p7] 89)).drew.alloc (.cells #[Value.int .i64 p1,.int .i64 p2,.int .i64 p3,.int .i64 p4,.int .i64 p5,.int .i64 0,.pointer p7] 89)) ((hb2.block w.heap.size (by omega)).trans hW1));have hcB:((w.alloc (.cells #[Value.int .i64 p1,.int .i64 p2,.int .i64 p3,.int .i64 p4,.int .i64 p5,.int .i64 0,.pointer p7] 89)).drew.alloc (.cells #[Value.int .i64 p1,.int .i64 p2,.int .i64 p3,.int .i64 p4,.int .i64 p5,.int .i64 0,.pointer p7] 89)).cell? ⟨a,2,none⟩=some (.slice A N c):=(z0c ((hb2.block a (by omega)).trans hW1a) 2).trans h2;have HR2:Hid (((w.alloc (.cells #[Value.int .i64 p1,.int .i64 p2,.int .i64 p3,.int .i64 p4,.int .i64 p5,.int .i64 0,.pointer p7] 89)).drew.alloc (.cells #[Value.int .i64 p1,.int .i64 p2,.int .i64 p3,.int .i64 p4,.int .i64 p5,.int .i64 0,.pointer p7] 89)).ownsRow B 89 7 (.slice A N c) N cs):=Lib.hid (z1x hrow (((z0b w _).drew).alloc (by simp) _))
 have HN2:Hid (∀ (j:Nat) (u:Value),#[Value.int .i64 p1,.int .i64 p2,.int .i64 p3,.int .i64 p4,.int .i64 p5,.int .i64 0,.pointer p7].toList[j]?=some u→((w.alloc (.cells #[Value.int .i64 p1,.int .i64 p2,.int .i64 p3,.int .i64 p4,.int .i64 p5,.int .i64 0,.pointer p7] 89)).drew.alloc (.cells #[Value.int .i64 p1,.int .i64 p2,.int .i64 p3,.int .i64 p4,.int .i64 p5,.int .i64 0,.pointer p7] 89)).cell? ((⟨w.heap.size+1,0,none⟩:Addr).add j)=some u):=Lib.hid fun j u hu=>by
  have:=z0l (w.alloc (.cells #[Value.int .i64 p1,.int .i64 p2,.int .i64 p3,.int .i64 p4,.int .i64 p5,.int .i64 0,.pointer p7] 89)).drew 89 #[Value.int .i64 p1,.int .i64 p2,.int .i64 p3,.int .i64 p4,.int .i64 p5,.int .i64 0,.pointer p7] j u hu;rw[show (w.alloc (.cells #[Value.int .i64 p1,.int .i64 p2,.int .i64 p3,.int .i64 p4,.int .i64 p5,.int .i64 0,.pointer p7] 89)).drew.heap.size=w.heap.size+1 by simp] at this;exact this
 have HO:=Lib.hid (z44 p1 p2 p3 p4 p5 0 p7)
 have HT:Hid (∀ (g cap:Nat) (w5:World),w5.ownsRow B 89 7 (.slice (some ⟨g,0,none⟩) (N+1) cap) (N+1) (cs++[.int .i64 p1,.int .i64 p2,.int .i64 p3,.int .i64 p4,.int .i64 p5,.int .i64 0,.pointer p7])→((w.alloc (.cells #[Value.int .i64 p1,.int .i64 p2,.int .i64 p3,.int .i64 p4,.int .i64 p5,.int .i64 0,.pointer p7] 89)).drew.alloc (.cells #[Value.int .i64 p1,.int .i64 p2,.int .i64 p3,.int .i64 p4,.int .i64 p5,.int .i64 0,.pointer p7] 89)).grownBy w5 (Value.slice A N c).ownBlock→((Value.slice A N c).ownBlock=some g∨g=((w.alloc (.cells #[Value.int .i64 p1,.int .i64 p2,.int .i64 p3,.int .i64 p4,.int .i64 p5,.int .i64 0,.pointer p7] 89)).drew.alloc (.cells #[Value.int .i64 p1,.int .i64 p2,.int .i64 p3,.int .i64 p4,.int .i64 p5,.int .i64 0,.pointer p7] 89)).heap.size)→
   P (w5.setCell ⟨a,2,none⟩ (.slice (some ⟨g,0,none⟩) (N+1) cap))∧w5.heap[a]?=some (.cells X 86)∧w5.heap[w.heap.size]?=some (.cells #[Value.int .i64 p1,.int .i64 p2,.int .i64 p3,.int .i64 p4,.int .i64 p5,.int .i64 0,.pointer p7] 89)∧(w5.setCell ⟨a,2,none⟩ (.slice (some ⟨g,0,none⟩) (N+1) cap)).heap[w.heap.size]?=some (.cells #[Value.int .i64 p1,.int .i64 p2,.int .i64 p3,.int .i64 p4,.int .i64 p5,.int .i64 0,.pointer p7] 89)∧w5.frozen? ⟨a,2,none⟩=false):=Lib.hid fun g cap w5 q1 q2 q3=>by
  have hz:((w.alloc (.cells #[Value.int .i64 p1,.int .i64 p2,.int .i64 p3,.int .i64 p4,.int .i64 p5,.int .i64 0,.pointer p7] 89)).drew.alloc (.cells #[Value.int .i64 p1,.int .i64 p2,.int .i64 p3,.int .i64 p4,.int .i64 p5,.int .i64 0,.pointer p7] 89)).heap.size=w.heap.size+2:=by simp
  have e1:w5.heap[a]?=some (.cells X 86):=(q2.block a (by omega) (fun e=>hra e.symm)).trans ((hb2.block a (by omega)).trans hW1a);have e2:=(q2.block _ (by omega) (fun e=>hrl e.symm)).trans ((hb2.block w.heap.size (by omega)).trans hW1);refine⟨HC _ w5 g cap (((z0b w _).drew).alloc (by simp) _) (by omega) q1 q2 q3,e1,e2,(Below.heap_setCell _ _ _ _ (by show w.heap.size≠a;omega)).trans e2,z0m e1 2⟩
 have HSZ:Hid (B≤((w.alloc (.cells #[Value.int .i64 p1,.int .i64 p2,.int .i64 p3,.int .i64 p4,.int .i64 p5,.int .i64 0,.pointer p7] 89)).drew.alloc (.cells #[Value.int .i64 p1,.int .i64 p2,.int .i64 p3,.int .i64 p4,.int .i64 p5,.int .i64 0,.pointer p7] 89)).heap.size):=Lib.hid (by simp;omega);have hca:w.cell? ⟨a,2,none⟩=some (.slice A N c):=(z0c hbox 2).trans h2;have l0:∀ o,(w.alloc o).cell? ⟨a,2,none⟩=some (.slice A N c):=fun o=>((z0b w o).cell (p:=⟨a,2,none⟩) hal).trans hca
 have l1:∀ o o',((w.alloc o).alloc o').cell? ⟨a,2,none⟩=some (.slice A N c):=fun o o'=>(((z0b w o).alloc (by simp) o').cell (p:=⟨a,2,none⟩) hal).trans hca
 have l2:∀ o o',((w.alloc o).drew.alloc o').cell? ⟨a,2,none⟩=some (.slice A N c):=fun o o'=>(((z0b w o).drew.alloc (by simp) o').cell (p:=⟨a,2,none⟩) hal).trans hca
 have H2:=Lib.hid h2;clear hcA hcB hca;clear hbx bx hrow hbox h2 hal hra hrl HC hW1 hW1a hb2 HB HBX HRW HL HCC;go_enter Tryd.func29,Tryd.ntmps29;go_wp2;rw[show Op.load 83 (.tmp 8)=ldTr from rfl]
 go_region_held3 (fun w'=>w'.cell? ⟨w.heap.size,0,none⟩=some (.int .i64 p1)∧w'.cell? ⟨w.heap.size,1,none⟩=some (.int .i64 p2)∧w'.cell? ⟨w.heap.size,2,none⟩=some (.int .i64 p3)∧w'.cell? ⟨w.heap.size,3,none⟩=some (.int .i64 p4)∧w'.cell? ⟨w.heap.size,4,none⟩=some (.int .i64 p5)∧w'.cell? ⟨w.heap.size,5,none⟩=some (.int .i64 0)∧w'.cell? ⟨w.heap.size,6,none⟩=some (.pointer p7)) (first | exact HS1.out | exact HS2.out | exact hs5 | exact hs6) (first
  | (refine step_append_lies _ rfl (.tmp 9) (.tmp 11) 83 rfl B 89 i0 (.agg #[.int .i64 0,.int .i64 0,.int .i64 0,.int .i64 0,.int .i64 0,.int .i64 0,.pointer none]) 7 56 Tryd.underlying83 hi0 hz0 hz1 hz2 rfl (by decide) _ _ _ rfl HR2.out ⟨w.heap.size+1,0,none⟩ 1 1 [.int .i64 p1,.int .i64 p2,.int .i64 p3,.int .i64 p4,.int .i64 p5,.int .i64 0,.pointer p7] rfl rfl HN2.out HO.out (by decide) (by unfold maxLen;omega) (by omega) HSZ.out _ rfl ?_;intro g5 cap5 w5 hown hgrow hat hlt;have HD:=Lib.hid (HT.out g5 cap5 w5 hown hgrow hat);have hs5:=HS.out w5 HD.out.2.2.1;have hs6:=HS.out _ HD.out.2.2.2.1;have hf5:=HD.out.2.2.2.2;have hc5:=(z0c HD.out.2.1 2).trans H2.out;clear hown hgrow hat hlt)
  | fail)
 all_goals go_wp2
 all_goals go_end0
 all_goals exact⟨rfl,Lib.hid HD.out.1⟩
def PushPost (fb:Nat) (o:WO) (l:List Trk) (w:World) (e:Ending) (w':World):Prop:=e= .returned (.tuple #[])∧Hid (∃ v',Mt fb o w { o with tv:=v',tr:=o.tr++l } w')
theorem z01 {fb:Nat} {w:World} {o:WO} (t:Trk) (h:WaysAt fb w o) (hl:o.tr.length≤1000000000000):
  Calls Tryd.prog 29 #[.pointer (some ⟨o.a,0,none⟩),trkV t] w (PushPost fb o [{ t with tried:=0 }] w):=by
 obtain⟨A,c,hv⟩:=z1k h.tr;have hk:=h.kind (b:=o.a) (.inl rfl);have hrow:=h.tr;rw[hv] at hrow
 exact y9v (X:=#[.pointer (some ⟨fb,0,none⟩),.int .i64 (o.part:Nat),o.tv,.map o.mp,o.fv]) _ _ _ _ _ _ _ _ hrow h.box (by rw[←hv];rfl) hl (by omega) fun W w5 g cap q1 q2 q3 q4 q5=>
  ⟨_,(y57 (t:={ t with tried:=0 }) h q1 q2 q3 (by rw[hv];exact q4) (by rw[hv];exact q5)).1⟩
section
set_option linter.unusedSimpArgs false
set_option linter.unusedVariables false
def updC (F:Bool→Nat→Int) (l:Evs):Bool→Nat→Int:=fun b n=>if F b n<0 then lastOf b (n:Int) l else F b n
theorem y94 {F:Bool→Nat→Int} (h:∀ b n, -1≤F b n):updC F []=F:=by
 funext b n
 unfold updC lastOf;have:=h b n
 split <;> omega
theorem z8a (F:Bool→Nat→Int) (l l':Evs):updC (updC F l) l'=updC F (l++l'):=by
 funext b n
 unfold updC;rw[z2a];by_cases h1:F b n<0
 ·simp only[if_pos h1]
 ·simp only[if_neg h1]
theorem x02 {F:Bool→Nat→Int} (h:∀ b n, -1≤F b n) (l:Evs):∀ b n, -1≤updC F l b n:=fun b n=>by
 unfold updC;have:=h b n;have:=y1p b (n:Int) l
 split <;> omega
def CutsAt (w:World) (b:Nat) (F:Bool→Nat→Int):Prop:=∃ cs,w.heap[b]?=some (.cells cs 35)∧cs.size=20∧∀ n,n<10→cs[n * 2]?=some (.int .i64 (F true n))∧cs[n * 2+1]?=some (.int .i64 (F false n))
theorem CutsAt.keep {w w':World} {b:Nat} {F:Bool→Nat→Int} (h:CutsAt w b F) (hb:w'.heap[b]?=w.heap[b]?):CutsAt w' b F:=by
 obtain⟨cs,h1,h2⟩:=h;exact⟨cs,hb.trans h1,h2⟩
inductive TrailN (w:World):Option Nat→Evs→Nat→Prop
 | nil:TrailN w none [] 0
 | beg {a:Nat} {p:Option Nat} {n:Int} {i:Nat} {l:Evs} {k:Nat}:w.heap[a]?=some (.cells #[pv p,pv none,.int .i64 n,.int .i64 (i:Nat),.int .i64 (-1)] 108)→0<n→n<10→TrailN w p l k→TrailN w (some a) (⟨true,n,i⟩::l) (k+1)
 | fin {a:Nat} {p:Option Nat} {n:Int} {i:Nat} {l:Evs} {k:Nat}:w.heap[a]?=some (.cells #[pv p,pv none,.int .i64 n,.int .i64 (-1),.int .i64 (i:Nat)] 108)→0<n→n<10→TrailN w p l k→TrailN w (some a) (⟨false,n,i⟩::l) (k+1)
 | tim {a b:Nat} {p:Option Nat} {l l':Evs} {k k':Nat}:w.heap[a]?=some (.cells #[pv p,pv (some b),.int .i64 0,.int .i64 0,.int .i64 0] 108)→TrailN w p l k→TrailN w (some b) l' k'→TrailN w (some a) (l'++l) (k+k'+1)
theorem TrailP.num {w:World} {p:Option Nat} {l:Evs} (h:TrailP w p l):∃ k,TrailN w p l k:=by
 induction h with
 | nil=>exact⟨_,.nil⟩
 | beg h1 h2 h3 _ ih=>obtain⟨k,hk⟩:=ih;exact⟨_,.beg h1 h2 h3 hk⟩
 | fin h1 h2 h3 _ ih=>obtain⟨k,hk⟩:=ih;exact⟨_,.fin h1 h2 h3 hk⟩
 | tim h1 _ _ ih1 ih2=>obtain⟨k,hk⟩:=ih1;obtain⟨k',hk'⟩:=ih2;exact⟨_,.tim h1 hk hk'⟩
theorem TrailN.keep {S:Nat→Prop} {w w':World} {p:Option Nat} {l:Evs} {k:Nat} (h:TrailN w p l k) (hf:Frm S w w') (hS:NoMark S w):TrailN w' p l k:=by
 have kk:∀ {a:Nat} {X:Array Value},w.heap[a]?=some (.cells X 108)→w'.heap[a]?=some (.cells X 108):=fun {a X} h=>by
  rw[hf.block a (Array.getElem?_eq_some_iff.mp h).1 (fun q=>hS a q X h)];exact h
 induction h with
 | nil=>exact .nil
 | beg h1 h2 h3 _ ih=>exact .beg (kk h1) h2 h3 ih
 | fin h1 h2 h3 _ ih=>exact .fin (kk h1) h2 h3 ih
 | tim h1 _ _ ih1 ih2=>exact .tim (kk h1) ih1 ih2
theorem CutsAt.set {w:World} {b:Nat} {F:Bool→Nat→Int} (h:CutsAt w b F) (q:Bool) (m:Nat) (hm:m<10) (v:Int):CutsAt (w.setCell ⟨b,m * 2+(if q=true then 0 else 1),none⟩ (.int .i64 v)) b (fun q' n=>if q'=q∧n=m then v else F q' n):=by
 obtain⟨cs,h1,h2,h3⟩:=h;refine⟨_,heap_setCell_same w b _ cs 35 _ h1,by simpa using h2,fun n hn=>?_⟩;obtain⟨g1,g2⟩:=h3 n hn
 cases q with
 | true=>
   simp only[if_pos,Nat.add_zero];by_cases e:n=m
   ·subst e
    refine⟨?_,?_⟩
    ·rw[Array.getElem?_setIfInBounds_self_of_lt (by omega)];simp
    ·rw[Array.getElem?_setIfInBounds_ne (by omega)];simpa using g2
   ·refine⟨?_,?_⟩
    ·rw[Array.getElem?_setIfInBounds_ne (by omega)];simpa[e] using g1
    ·rw[Array.getElem?_setIfInBounds_ne (by omega)];simpa[e] using g2
 | false=>
   simp only[Bool.false_eq_true,if_false];by_cases e:n=m
   ·subst e
    refine⟨?_,?_⟩
    ·rw[Array.getElem?_setIfInBounds_ne (by omega)];simpa using g1
    ·rw[Array.getElem?_setIfInBounds_self_of_lt (by omega)];simp
   ·refine⟨?_,?_⟩
    ·rw[Array.getElem?_setIfInBounds_ne (by omega)];simpa[e] using g1
    ·rw[Array.getElem?_setIfInBounds_ne (by omega)];simpa[e] using g2
end
section
set_option linter.unusedSimpArgs false
def setF (F:Bool→Nat→Int) (m:Nat) (x y:Int):Bool→Nat→Int:=fun q n=>if n=m∧F q n<0 then (if q=true then x else y) else F q n
theorem x1f {F:Bool→Nat→Int} (h:∀ q n, -1≤F q n) {m:Nat} {x y:Int} (hx: -1≤x) (hy: -1≤y):∀ q n, -1≤setF F m x y q n:=fun q n=>by
 unfold setF;have:=h q n
 split
 ·split <;> omega
 ·exact this
theorem y7u {F:Bool→Nat→Int} (h:∀ q n, -1≤F q n) (m i:Nat):setF F m i (-1)=updC F [⟨true,(m:Int),i⟩]:=by
 funext q n
 unfold setF updC lastOf lastOf;have:=h q n;by_cases h1:F q n<0
 ·by_cases h2:n=m
  ·subst h2
   cases q <;> simp[h1]
  ·have h3:¬ ((m:Int)=(n:Int)):=by omega
   simp[h1,h2,h3];omega
 ·simp[h1]
theorem y9b {F:Bool→Nat→Int} (h:∀ q n, -1≤F q n) (m i:Nat):setF F m (-1) i=updC F [⟨false,(m:Int),i⟩]:=by
 funext q n
 unfold setF updC lastOf lastOf;have:=h q n;by_cases h1:F q n<0
 ·by_cases h2:n=m
  ·subst h2
   cases q <;> simp[h1]
  ·have h3:¬ ((m:Int)=(n:Int)):=by omega
   simp[h1,h2,h3];omega
 ·simp[h1]
theorem TrailN.inv {w:World} {a:Nat} {l:Evs} {k:Nat} (h:TrailN w (some a) l k):
  (∃ p2 m x y l2 k2,w.heap[a]?=some (.cells #[pv p2,pv none,.int .i64 (m:Nat),.int .i64 x,.int .i64 y] 108)∧m<10∧TrailN w p2 l2 k2∧k=k2+1∧ -1≤x∧ -1≤y∧∀ F:Bool→Nat→Int,(∀ q n, -1≤F q n)→updC (setF F m x y) l2=updC F l)∨
  (∃ b p2 l1 l2 k1 k2,w.heap[a]?=some (.cells #[pv p2,pv (some b),.int .i64 0,.int .i64 0,.int .i64 0] 108)∧TrailN w p2 l1 k1∧TrailN w (some b) l2 k2∧l=l2++l1∧k=k1+k2+1):=by
 cases h with
 | @beg _ p n i l k h1 h2 h3 h4=>
   obtain⟨m,rfl⟩:∃ m:Nat,n=m:=⟨n.toNat,by omega⟩;exact .inl ⟨p,m,i, -1,l,k,h1,by omega,h4,rfl,by omega,by omega,fun F hF=>by rw[y7u hF,z8a];rfl⟩
 | @fin _ p n i l k h1 h2 h3 h4=>
   obtain⟨m,rfl⟩:∃ m:Nat,n=m:=⟨n.toNat,by omega⟩;exact .inl ⟨p,m, -1,i,l,k,h1,by omega,h4,rfl,by omega,by omega,fun F hF=>by rw[y9b hF,z8a];rfl⟩
 | @tim _ b p l l' k k' h1 h2 h3=>exact .inr ⟨b,p,l,l',k,k',h1,h2,h3,rfl,rfl⟩
theorem CutsAt.noMark {w:World} {b:Nat} {F:Bool→Nat→Int} (h:CutsAt w b F):NoMark (fun k=>k=b) w:=fun k hk X hX=>by
 subst hk;obtain⟨cs,h1,_⟩:=h;rw[h1] at hX;simp at hX
theorem CutsAt.cells {w:World} {b:Nat} {F:Bool→Nat→Int} (h:CutsAt w b F) {m:Nat} (hm:m<10):w.cell? ⟨b,m * 2,none⟩=some (.int .i64 (F true m))∧w.cell? ⟨b,m * 2+1,none⟩=some (.int .i64 (F false m))∧∀ j,w.frozen? ⟨b,j,none⟩=false:=by
 obtain⟨cs,h1,_,h2⟩:=h;obtain⟨g1,g2⟩:=h2 m hm;exact⟨(z0c h1 _).trans g1,(z0c h1 _).trans g2,z0m h1⟩
theorem CutsAt.to {w:World} {b:Nat} {F F':Bool→Nat→Int} (h:CutsAt w b F) (e:∀ q n,F q n=F' q n):CutsAt w b F':=by
 have:F=F':=by funext q n;exact e q n
 exact this ▸ h
def TellPost (w:World) (b:Nat) (F:Bool→Nat→Int) (e:Ending) (w':World):Prop:=e= .returned (.tuple #[])∧Hid (CutsAt w' b F∧Frm (fun k=>k=b) w w')
def TellI (w:World) (b:Nat) (G:Bool→Nat→Int) (kk:Nat) (p:Option Nat) (wr:World):Prop:=∃ l F,TrailN wr p l kk∧CutsAt wr b F∧(∀ q n, -1≤F q n)∧updC F l=G∧Frm (fun k=>k=b) w wr
theorem TellI.mark {w wr w':World} {b:Nat} {G:Bool→Nat→Int} {l l2:Evs} {F:Bool→Nat→Int} {p2:Option Nat} {m k2:Nat} {x y:Int} (hF:∀ q n, -1≤F q n) (hC:CutsAt wr b F) (hfr:Frm (fun k=>k=b) w wr) (hG:updC F l=G)
  (ht:TrailN wr p2 l2 k2) (hx: -1≤x) (hy: -1≤y) (he:∀ F:Bool→Nat→Int,(∀ q n, -1≤F q n)→updC (setF F m x y) l2=updC F l) (hc:CutsAt w' b (setF F m x y)) (hf:Frm (fun k=>k=b) wr w'):TellI w b G k2 p2 w':=
 ⟨l2,setF F m x y,ht.keep hf hC.noMark,hc,x1f hF hx hy,(he F hF).trans hG,hfr.trans hf fun _ _ q=>q⟩
theorem y6j {wr:World} {b m:Nat} {F:Bool→Nat→Int} (hC:CutsAt wr b F) (hm:m<10) (x y:Int):
  (F false m<0→F true m<0→CutsAt ((wr.setCell ⟨b,m * 2+1,none⟩ (.int .i64 y)).setCell ⟨b,m * 2,none⟩ (.int .i64 x)) b (setF F m x y))∧(F false m<0→¬ F true m<0→CutsAt (wr.setCell ⟨b,m * 2+1,none⟩ (.int .i64 y)) b (setF F m x y))∧
  (¬ F false m<0→F true m<0→CutsAt (wr.setCell ⟨b,m * 2,none⟩ (.int .i64 x)) b (setF F m x y))∧(¬ F false m<0→¬ F true m<0→CutsAt wr b (setF F m x y)):=by
 have s1:=hC.set false m hm y;have s2:=hC.set true m hm x;have s3:=s1.set true m hm x;simp only[Bool.false_eq_true,if_false,if_true,Nat.add_zero] at s1 s2 s3;refine⟨fun h1 h2=>s3.to ?_,fun h1 h2=>s1.to ?_,fun h1 h2=>s2.to ?_,fun h1 h2=>hC.to ?_⟩ <;>
 ·intro q n
  unfold setF;by_cases e:n=m
  ·subst e
   cases q <;> simp[h1,h2]
  ·simp[e]
end
end Go.Proofs.YtejgbpbljdhndaaDoor
