import Derived.Deep.Slices
import Derived.Test.YtngfihoempcplaaGreatDoorSc38
import Derived.Test.YtngfihoempcplaaGreatDoorSc39
import Derived.Test.YtngfihoempcplaaGreatDoorSq1
import Derived.Test.YtngfihoempcplaaGreatDoorSc36
namespace Go.Proofs.YtngfihoempcplaaGreatDoor
open Go Go.RowKit
set_option maxRecDepth 100000
set_option maxHeartbeats 20000000
def mvC (c:Cm) (p:Int):Cm:= .mk c.kind c.name c.n c.parts c.cond c.body c.els c.rules p
theorem stC_mv (c:Cm) (p:Int):stC (mvC c p)=stC c:=by cases c;unfold mvC;rw[stC,stC];rfl
theorem kid_mv {P:Nat→Prop} {w:World} {lk:Lk} {c:Cm} {p:Int} (h:KidC P w lk c):KidC P w lk (mvC c p):=by
 have h':=(kidC_eq (c:=c)).1 h;exact(kidC_eq (c:=mvC c p)).2 h'
theorem fit_mv {c:Cm} {p:Int} (h:FitC c):FitC (mvC c p):=by
 obtain⟨h1,h2,h3,h4,h5,h6,h7,h8,h9,h10,h11⟩:=fitC_eq h;exact .mk h1 h2 h3 h4 h5 h6 h7 h8 h9 h10 h11
structure MvI (a:List Cm) (w wr:World) (v:Value) (es:List XC) (j:Nat):Prop where
 low:Below w.heap.size w wr
 row:wr.ownsRow w.heap.size 41 13 v j (es.flatMap cfC)
 len:es.length=j
 is:∀ (i:Nat) (e:XC),es[i]?=some e→∃ r,a[i]?=some r∧e.1=mvC r i
 kids:∀ e∈es,KidC (LtX w.heap.size) w e.2 e.1
theorem MvI.push {a:List Cm} {w wr w3:World} {v:Value} {es:List XC} {j:Nat} (h:MvI a w wr v es j) {r:Cm} {lk:Lk} (hr:a[j]?=some r) (hk:KidC (LtX w.heap.size) w lk r) {wb:World} (hb:Below wr.heap.size wr wb) {g cap:Nat}
  (ho:w3.ownsRow w.heap.size 41 13 (.slice (some ⟨g,0,none⟩) (j+1) cap) (j+1) (es.flatMap cfC++cfC (mvC r j,lk))) (hg:wb.grownBy w3 v.ownBlock):MvI a w w3 (.slice (some ⟨g,0,none⟩) (j+1) cap) (es++[(mvC r j,lk)]) (j+1):=by
 refine⟨?_,?_,by simp[h.len],fun i e hi=>?_,fun e he=>?_⟩
 ·have h1:Below w.heap.size w wb:=h.low.trans (hb.mono h.low.size)
  refine h1.trans ⟨hg.os,hg.tape,hg.output,hg.size,fun k hk'=>hg.block k (Nat.lt_of_lt_of_le hk' h1.size) fun e=>?_⟩;have:=(h.row.lt k e.symm).1;omega
 ·rw[List.flatMap_append];simpa using ho
 ·by_cases c:i<es.length
  ·rw[List.getElem?_append_left c] at hi
   exact h.is i e hi
  ·rw[List.getElem?_append_right (by omega)] at hi
   have hi0:i=es.length:=by
    by_cases d:i - es.length=0
    ·omega
    ·rw[List.getElem?_eq_none (by simp;omega)] at hi;cases hi
   subst hi0;rw[Nat.sub_self] at hi;injection hi with hi
   subst hi;rw[h.len];exact⟨r,hr,rfl⟩
 ·rcases List.mem_append.1 he with he | he
  ·exact h.kids e he
  ·rw[List.mem_singleton] at he
   subst he;exact kid_mv hk
theorem MvI.done {a:List Cm} {w wr:World} {v:Value} {es:List XC} (h:MvI a w wr v es a.length):∃ A' c',v= .slice A' (es.map (·.1)).length c'∧RowC (LtX wr.heap.size) wr A' (es.map (·.1))∧(es.map (·.1)).map stC=a.map stC:=by
 have hst:(es.map (·.1)).map stC=a.map stC:=by
  apply List.ext_getElem?;intro i;rw[List.getElem?_map,List.getElem?_map,List.getElem?_map]
  cases he:es[i]? with
  | none=>
    have:a[i]?=none:=List.getElem?_eq_none (by rw[List.getElem?_eq_none_iff,h.len] at he;exact he);rw[this];rfl
  | some e=>
    obtain⟨r,hr,e1⟩:=h.is i e he;rw[hr];show some (stC e.1)=some (stC r);rw[e1,stC_mv]
 rcases h.row.2 with ⟨rfl,h0⟩ | ⟨g,cap,cur,rfl,hb,hg,_⟩
 ·have:es=[]:=List.eq_nil_of_length_eq_zero (by rw[h.len,h0])
  subst this;exact⟨none,0,rfl,.inl rfl,hst⟩
 ·refine⟨some ⟨g,0,none⟩,cap,by rw[List.length_map,h.len],.inr ⟨⟨g,0,none⟩,rfl,(Array.getElem?_eq_some_iff.1 hg).1,kidCL_iff.2 fun j c hj=>?_⟩,hst⟩
  rw[List.getElem?_map,Option.map_eq_some_iff] at hj;obtain⟨x,hx,rfl⟩:=hj;refine⟨x.2,fun i u hu=>?_,(h.kids x (List.mem_of_getElem? hx)).of (fun _ hp=>h.low.cell hp) fun _ hp=>Nat.lt_of_lt_of_le hp h.low.size⟩;rw[add_addX,Nat.zero_add];exact h.row.cells (g:=g) rfl _ _ (flat_at (cf:=cfC) (fun _=>rfl) es j x hx i u hu)
theorem walk_samesS (a b:List Cm) (A B:Option Addr) (c d:Nat) (w:World) (hk:RowC (LtX w.heap.size) w A a) (hk':RowC (LtX w.heap.size) w B b)
  (HA:Hid (Calls Tryz.prog 5 #[] w fun e w'=>e= .returned (.bool true)∧Below w.heap.size w w')):
  Calls Tryz.prog 4 #[.slice A a.length c,.slice B b.length d] w fun e w'=>e= .returned (.bool true)∧Below w.heap.size w w':=by
 have K1:Hid (∀ w',Below w.heap.size w w'→Calls Tryz.prog 11 #[.slice A a.length c,.int .i64 40] w' fun e w2=>e= .returned (.bool (decide (0≤cnL a 40)))∧Below w'.heap.size w' w2):=Lib.hid fun w' hw=>smallS_any a A c w' (hk.next hw)
 have K2:Hid (∀ w',Below w.heap.size w w'→Calls Tryz.prog 11 #[.slice B b.length d,.int .i64 40] w' fun e w2=>e= .returned (.bool (decide (0≤cnL b 40)))∧Below w'.heap.size w' w2):=Lib.hid fun w' hw=>smallS_any b B d w' (hk'.next hw)
 by_cases h1:0≤cnL a 40
 ·rw[decide_eq_true h1] at K1
  by_cases h2:0≤cnL b 40
  ·rw[decide_eq_true h2] at K2
   obtain⟨f1,g1⟩:=cnL_fit h1 (by decide);obtain⟨f2,g2⟩:=cnL_fit h2 (by decide);have hla:=cnL_len h1;obtain⟨v,hv⟩:∃ v,v=eqB (a.map stC) (b.map stC):=⟨_,rfl⟩
   have K3:Hid (∀ w',Below w.heap.size w w'→Calls Tryz.prog 12 #[.slice A a.length c,.slice B b.length d] w' fun e w2=>e= .returned (.bool v)∧Below w'.heap.size w' w2):=Lib.hid fun w' hw=>by
    rw[hv];exact csameS_any a b A B c d w' (hk.next hw) (hk'.next hw) f1 f2 g1
   have K4:Hid (∀ w',Below w.heap.size w w'→Calls Tryz.prog 8 #[.slice A a.length c,.slice B b.length d] w' fun e w2=>e= .returned (.bool v)∧Below w'.heap.size w' w2):=Lib.hid fun w' hw=>by
    rw[hv];exact rsameS_any a b A B c d w' (hk.next hw) (hk'.next hw) f1 f2 g1
   have K5:Hid (∀ es w' V,MvI a w V w' es a.length→True):=Lib.hid fun _ _ _ _=>trivial
   have K6:Hid (∀ (es:List XC) (V:Value) wr,MvI a w wr V es a.length→∀ w',Below wr.heap.size wr w'→Calls Tryz.prog 12 #[.slice A a.length c,V] w' fun e w2=>e= .returned (.bool true)∧Below w'.heap.size w' w2):=Lib.hid fun es V wr hm w' hw=>by
    obtain⟨A',c',rfl,hrow,hst⟩:=hm.done
    have:=csameS_any a (es.map (·.1)) A A' c c' w' ((hk.next hm.low).next hw) (hrow.next hw) f1 (fun x hx=>by
     obtain⟨e,he,rfl⟩:=List.mem_map.1 hx;obtain⟨i,hi,e2⟩:=List.getElem_of_mem he;obtain⟨r,hr,e3⟩:=hm.is i e (by rw[←e2];exact List.getElem?_eq_getElem hi);rw[e3];exact fit_mv (f1 r (List.mem_of_getElem? hr))) g1
    rw[eqB_yes hst.symm] at this;exact this
   have HK:=Lib.hid hk;obtain⟨n,hn⟩:∃ n,n=a.length:=⟨_,rfl⟩;have HN:=Lib.hid hn;obtain⟨i0,hi0,hz0,hz1,hz2⟩:=info_parts infoC;rw[←hn] at K1 K3 K4 K6 hla ⊢;generalize b.length=m at K2 K3 K4 ⊢;clear K5 hk hk' h1 h2 f1 f2 g1 g2 hv hn;go_enter Tryz.func4,Tryz.ntmps4;go_wp2_with (first | (go_at_call 5;go_must ((with_reducible refine(HA.out).mono ?_);rintro e w1 ⟨rfl,hb1⟩;have HB1:=Lib.hid hb1;clear hb1)) | (go_at_call 11;((with_reducible refine(K1.out _ HB1.out).mono ?_);rintro e w2 ⟨rfl,hb2⟩;have HB2:=Lib.hid (HB1.out.trans (hb2.mono HB1.out.size));clear hb2 K1)) | (go_at_call 11;go_must ((with_reducible refine(K2.out _ HB2.out).mono ?_);rintro e w3 ⟨rfl,hb3⟩;have HB3:=Lib.hid (HB2.out.trans (hb3.mono HB2.out.size));clear hb3)))
   go_loopw [20,5] (fun i v wr=>∃ (j:Nat) (es:List XC),j≤n∧i= .int .i64 j∧Hid (MvI a w wr v es j)) (fun i _ _=>n - (intOf i).toNat)
   case atStart=>exact⟨0,[],by omega,rfl,Lib.hid ⟨HB3.out,World.ownsRow_nil _ _ _ _,rfl,fun i e h=>by simp at h,by simp⟩⟩
   case round=>
    obtain⟨j,es,hj,rfl,HM⟩:=hrel;by_cases aj:j<n
    ·obtain⟨r,hr⟩:=getX_of_lt HN.out aj
     obtain⟨ad,lk,rfl,hp,h9,hkr⟩:=rowC_at HK.out HM.out.low hr;obtain⟨c0,c1,c2,c3,c4,c5,c6,c7,c8,c9,c10,c11,c12⟩:=h9.at13;have hbt:(ad.add (j * 13)).block<wr.heap.size:=World.block_lt_of_cell? wr _ c0;have HR:=Lib.hid hr;have HKR:=Lib.hid hkr;clear hr hkr h9 hp;have hj40:j≤40:=by omega
     have HJ:=Lib.hid hj40;have HRW:=Lib.hid ((HM.out.row.alloc (.cells #[.int .i64 r.kind,.string ⟨r.name.toArray⟩,.int .i64 r.n,.slice lk.p r.parts.length lk.cp,.int .i64 r.cond.kind,.int .i64 r.cond.n,.string ⟨r.cond.name.toArray⟩,.string ⟨r.cond.op.toArray⟩,.slice lk.x r.cond.kids.length lk.cx,.slice lk.b r.body.length lk.cb,.slice lk.e r.els.length lk.ce,.slice lk.u r.rules.length lk.cu,.int .i64 j] 41)).alloc (.cells #[.int .i64 r.kind,.string ⟨r.name.toArray⟩,.int .i64 r.n,.slice lk.p r.parts.length lk.cp,.int .i64 r.cond.kind,.int .i64 r.cond.n,.string ⟨r.cond.name.toArray⟩,.string ⟨r.cond.op.toArray⟩,.slice lk.x r.cond.kids.length lk.cx,.slice lk.b r.body.length lk.cb,.slice lk.e r.els.length lk.ce,.slice lk.u r.rules.length lk.cu,.int .i64 j] 41));have HSZ:Hid (w.heap.size≤((wr.alloc (.cells #[.int .i64 r.kind,.string ⟨r.name.toArray⟩,.int .i64 r.n,.slice lk.p r.parts.length lk.cp,.int .i64 r.cond.kind,.int .i64 r.cond.n,.string ⟨r.cond.name.toArray⟩,.string ⟨r.cond.op.toArray⟩,.slice lk.x r.cond.kids.length lk.cx,.slice lk.b r.body.length lk.cb,.slice lk.e r.els.length lk.ce,.slice lk.u r.rules.length lk.cu,.int .i64 j] 41)).alloc (.cells #[.int .i64 r.kind,.string ⟨r.name.toArray⟩,.int .i64 r.n,.slice lk.p r.parts.length lk.cp,.int .i64 r.cond.kind,.int .i64 r.cond.n,.string ⟨r.cond.name.toArray⟩,.string ⟨r.cond.op.toArray⟩,.slice lk.x r.cond.kids.length lk.cx,.slice lk.b r.body.length lk.cb,.slice lk.e r.els.length lk.ce,.slice lk.u r.rules.length lk.cu,.int .i64 j] 41)).heap.size):=Lib.hid (by have:=HM.out.low.size;simp;omega);go_wp2_with (at_builtin;refine wpList_append_lies _ rfl (.tmp 27) (.tmp 29) 23 rfl w.heap.size 41 i0 (.agg #[.int .i64 0,.string ⟨#[]⟩,.int .i64 0,.slice none 0 0,.int .i64 0,.int .i64 0,.string ⟨#[]⟩,.string ⟨#[]⟩,.slice none 0 0,.slice none 0 0,.slice none 0 0,.slice none 0 0,.int .i64 0]) 13 208 Tryz.underlying23 hi0 hz0 hz1 hz2 rfl (by decide) _ j (es.flatMap cfC) rfl HRW.out ⟨wr.heap.size+1,0,none⟩ 1 1 [.int .i64 r.kind,.string ⟨r.name.toArray⟩,.int .i64 r.n,.slice lk.p r.parts.length lk.cp,.int .i64 r.cond.kind,.int .i64 r.cond.n,.string ⟨r.cond.name.toArray⟩,.string ⟨r.cond.op.toArray⟩,.slice lk.x r.cond.kids.length lk.cx,.slice lk.b r.body.length lk.cb,.slice lk.e r.els.length lk.ce,.slice lk.u r.rules.length lk.cu,.int .i64 j] rfl rfl (fun i u hu=>new_cellsT wr (.cells #[.int .i64 r.kind,.string ⟨r.name.toArray⟩,.int .i64 r.n,.slice lk.p r.parts.length lk.cp,.int .i64 r.cond.kind,.int .i64 r.cond.n,.string ⟨r.cond.name.toArray⟩,.string ⟨r.cond.op.toArray⟩,.slice lk.x r.cond.kids.length lk.cx,.slice lk.b r.body.length lk.cb,.slice lk.e r.els.length lk.ce,.slice lk.u r.rules.length lk.cu,.int .i64 j] 41) 41 #[.int .i64 r.kind,.string ⟨r.name.toArray⟩,.int .i64 r.n,.slice lk.p r.parts.length lk.cp,.int .i64 r.cond.kind,.int .i64 r.cond.n,.string ⟨r.cond.name.toArray⟩,.string ⟨r.cond.op.toArray⟩,.slice lk.x r.cond.kids.length lk.cx,.slice lk.b r.body.length lk.cb,.slice lk.e r.els.length lk.ce,.slice lk.u r.rules.length lk.cu,.int .i64 j] i u hu) (oneC (mvC r j,lk)) (by decide) (by have:=HJ.out;unfold maxLen;omega) (by have:=HJ.out;omega) HSZ.out (wr.heap.size+2) (by simp) ?_;intro g cap w5 ho hg hvg hgl;have HN5:=Lib.hid (HM.out.push HR.out HKR.out (two_boxesX wr _ _) ho hg);clear ho hg hvg hgl)
     go_roundw
     case rel=>exact⟨j+1,_,by omega,by go_num,HN5⟩
     case measure=>simp[intOf];omega
    ·have hjn:j=n:=by omega
     subst hjn;have HBm:=Lib.hid HM.out.low;have K7:=Lib.hid (K6.out es _ wr HM.out);clear aj K6;go_wp2_with (first | (go_at_call 12;((with_reducible refine(K3.out _ HBm.out).mono ?_);rintro e w6 ⟨rfl,hb6⟩;have HB6:=Lib.hid hb6;have HC6:=Lib.hid (HBm.out.trans (hb6.mono HBm.out.size));clear hb6 K3)) | (go_at_call 8;go_must ((with_reducible refine(K4.out _ HC6.out).mono ?_);rintro e w7 ⟨rfl,hb7⟩;have HB7:=Lib.hid (HB6.out.trans (hb7.mono HB6.out.size));clear hb7)) | (go_at_call 12;go_must ((with_reducible refine(K7.out _ HB7.out).mono ?_);rintro e w8 ⟨rfl,hb8⟩;have HB8:=Lib.hid (HB7.out.trans (hb8.mono HB7.out.size));clear hb8)));go_ret;exact⟨rfl,HBm.out.trans (HB8.out.mono HBm.out.size)⟩
  ·rw[decide_eq_false h2] at K2
   clear hk hk' h1 h2;generalize a.length=n at K1 ⊢;generalize b.length=m at K2 ⊢;go_enter Tryz.func4,Tryz.ntmps4;go_wp2_with (first | (go_at_call 5;go_must ((with_reducible refine(HA.out).mono ?_);rintro e w1 ⟨rfl,hb1⟩;have HB1:=Lib.hid hb1;clear hb1)) | (go_at_call 11;((with_reducible refine(K1.out _ HB1.out).mono ?_);rintro e w2 ⟨rfl,hb2⟩;have HB2:=Lib.hid (HB1.out.trans (hb2.mono HB1.out.size));clear hb2 K1)) | (go_at_call 11;go_must ((with_reducible refine(K2.out _ HB2.out).mono ?_);rintro e w3 ⟨rfl,hb3⟩;have HB3:=Lib.hid (HB2.out.trans (hb3.mono HB2.out.size));clear hb3)));go_ret;exact⟨rfl,HB3.out⟩
 ·rw[decide_eq_false h1] at K1
  clear hk hk' h1 K2;generalize a.length=n at K1 ⊢;go_enter Tryz.func4,Tryz.ntmps4;go_wp2_with (first | (go_at_call 5;go_must ((with_reducible refine(HA.out).mono ?_);rintro e w1 ⟨rfl,hb1⟩;have HB1:=Lib.hid hb1;clear hb1)) | (go_at_call 11;go_must ((with_reducible refine(K1.out _ HB1.out).mono ?_);rintro e w2 ⟨rfl,hb2⟩;have HB2:=Lib.hid (HB1.out.trans (hb2.mono HB1.out.size));clear hb2)));go_ret;exact⟨rfl,HB2.out⟩
mutual
def ctC:Cm→Nat
 | .mk _ _ _ _ _ b e u _=>ctL b+ctL e+ctU u
def ctR:Ru→Nat
 | .mk _ _ _ _ b _=>ctL b
def ctL:List Cm→Nat
 | []=>0
 | c::cs=>1+ctC c+ctL cs
def ctU:List Ru→Nat
 | []=>0
 | r::rs=>ctR r+ctU rs
end
theorem ctC_eq (c:Cm):ctC c=ctL c.body+ctL c.els+ctU c.rules:=by cases c;rw[ctC];rfl
theorem ctR_eq (r:Ru):ctR r=ctL r.body:=by cases r;rw[ctR];rfl
theorem ctL_app:∀ a b:List Cm,ctL (a++b)=ctL a+ctL b
 | [],b=>by rw[List.nil_append,ctL];omega
 | x::a,b=>by rw[List.cons_append,ctL,ctL,ctL_app a b];omega
theorem ctU_app:∀ a b:List Ru,ctU (a++b)=ctU a+ctU b
 | [],b=>by rw[List.nil_append,ctU];omega
 | x::a,b=>by rw[List.cons_append,ctU,ctU,ctU_app a b];omega
theorem ctL_take {l:List Cm} {k:Nat} {x:Cm} (h:l[k]?=some x):ctL (l.take (k+1))=ctL (l.take k)+(1+ctC x):=by
 obtain⟨hk,e⟩:=List.getElem?_eq_some_iff.1 h;rw[List.take_succ_eq_append_getElem hk,e,ctL_app,ctL,ctL];omega
theorem ctU_take {l:List Ru} {k:Nat} {x:Ru} (h:l[k]?=some x):ctU (l.take (k+1))=ctU (l.take k)+ctR x:=by
 obtain⟨hk,e⟩:=List.getElem?_eq_some_iff.1 h;rw[List.take_succ_eq_append_getElem hk,e,ctU_app,ctU,ctU];omega
theorem ctL_len:∀ l:List Cm,l.length≤ctL l
 | []=>Nat.zero_le _
 | x::l=>by have:=ctL_len l;rw[ctL,List.length_cons];omega
theorem ctL_part (l:List Cm) (k:Nat):l.length - k+ctL (l.take k)≤ctL l:=by
 have h:=ctL_app (l.take k) (l.drop k);rw[List.take_append_drop] at h;have h2:=ctL_len (l.drop k);rw[List.length_drop] at h2;omega
theorem ctU_part (l:List Ru) (k:Nat):ctU (l.take k)≤ctU l:=by
 have h:=ctU_app (l.take k) (l.drop k);rw[List.take_append_drop] at h;omega
def CtP (ks:List Cm):Prop:=∀ (A:Option Addr) (c:Nat) (w:World),RowC (LtX w.heap.size) w A ks→(∀ x∈ks,FitC x)→ctL ks≤1000000→
 Calls Tryz.prog 14 #[.slice A ks.length c] w fun e w'=>e= .returned (.int .i64 (ctL ks))∧Below w.heap.size w w'
def CtK (c:Cm):Prop:=CtP c.body∧CtP c.els∧∀ r∈c.rules,CtP r.body
theorem ct_list (ks:List Cm) (ih:∀ x∈ks,CtK x):CtP ks:=by
 intro A c w hk hft hl;obtain⟨G,hG⟩:∃ G:Int,G=(ctL ks:Int):=⟨_,rfl⟩;rw[←hG];obtain⟨m,hm⟩:∃ m,m=ks.length:=⟨_,rfl⟩;have hmG:(m:Int)≤G:=by have:=ctL_len ks;omega
 have hG2:G≤1000000:=by omega
 rw[←hm];have HG:=Lib.hid hG;have HM:=Lib.hid hm;have HK:=Lib.hid hk;have HI:=Lib.hid ih;have HFT:=Lib.hid hft;clear hG hm hk ih hl hft;go_enter Tryz.func14,Tryz.ntmps14;go_wp2
 go_loopw [3,12] (fun g i wr=>∃ (j:Nat) (x:Int),j≤m∧i= .int .i64 j∧g= .int .i64 x∧Hid (x+(j:Int)=(m:Int)+(ctL (ks.take j):Int))∧0≤x∧x≤G∧Below w.heap.size w wr) (fun _ i _=>m - (intOf i).toNat)
 case atStart=>exact⟨0,m,by omega,rfl,rfl,Lib.hid (by rw[List.take_zero,ctL]),by omega,hmG,Below.refl _ _⟩
 case round=>
  obtain⟨j,x,hj,rfl,rfl,HX,hx1,hx2,hb⟩:=hrel;obtain⟨V,hV⟩:∃ V,V=wr:=⟨_,rfl⟩;subst hV;have HB:=Lib.hid hb;by_cases a:j<m
  ·obtain⟨r,hr⟩:=getX_of_lt HM.out a
   obtain⟨ad,lk,rfl,hp,h9,hkr⟩:=rowC_at HK.out hb hr;obtain⟨lp,lcp,lx,lcx,lb,lcb,le,lce,lu,lcu⟩:=lk;have hQ:=HI.out r (List.mem_of_getElem? hr);have htk:=ctL_take hr;have hfc:=fitC_eq (HFT.out r (List.mem_of_getElem? hr));have hpt:=ctL_part ks (j+1);have hcc:=ctC_eq r;have hK:=kidC_eq.1 (hkr.of (fun _ h=>hb.cell h) fun _ h=>Nat.lt_of_lt_of_le h hb.size:KidC (LtX V.heap.size) V ⟨lp,lcp,lx,lcx,lb,lcb,le,lce,lu,lcu⟩ r);have hx0:=HX.out;have hm0:=HM.out;have hg0:=HG.out;obtain⟨y1,hy1⟩:∃ y:Int,y=(ctL r.body:Int):=⟨_,rfl⟩;obtain⟨y2,hy2⟩:∃ y:Int,y=(ctL r.els:Int):=⟨_,rfl⟩;obtain⟨y3,hy3⟩:∃ y:Int,y=(ctU r.rules:Int):=⟨_,rfl⟩;have HST:Hid (x+(y1+y2)+y3+((j+1:Nat):Int)=(m:Int)+(ctL (ks.take (j+1)):Int)):=Lib.hid (by omega);have hbd:x+(y1+y2)+y3≤G:=by omega
   have hl1:ctL r.body≤1000000:=by omega
   have hl2:ctL r.els≤1000000:=by omega
   have hl3:ctU r.rules≤1000000:=by omega
   have KB:Hid (∀ w',Below V.heap.size V w'→Calls Tryz.prog 14 #[.slice lb r.body.length lcb] w' fun e w2=>e= .returned (.int .i64 y1)∧Below w'.heap.size w' w2):=Lib.hid fun w' hw=>by rw[hy1];exact hQ.1 _ _ w' (hK.2.2.1.next hw) hfc.2.2.2.2.2.2.2.2.1 hl1
   have KE:Hid (∀ w',Below V.heap.size V w'→Calls Tryz.prog 14 #[.slice le r.els.length lce] w' fun e w2=>e= .returned (.int .i64 y2)∧Below w'.heap.size w' w2):=Lib.hid fun w' hw=>by rw[hy2];exact hQ.2.1 _ _ w' (hK.2.2.2.1.next hw) hfc.2.2.2.2.2.2.2.2.2.1 hl2
   have KU:Hid (∀ (i:Nat) (u:Ru) (B:Option Addr) (k:Nat) w',r.rules[i]?=some u→Below V.heap.size V w'→KidR (LtX V.heap.size) V B u→Calls Tryz.prog 14 #[.slice B u.body.length k] w' fun e w2=>e= .returned (.int .i64 (ctL u.body))∧Below w'.heap.size w' w2):=Lib.hid fun i u B k w' h1 hw hz=>by
    have e1:=ctU_take h1;have e2:=ctU_part r.rules (i+1);have e3:=ctR_eq u;exact hQ.2.2 u (List.mem_of_getElem? h1) _ _ w' ((kidR_eq.1 hz).next hw) (fitR_eq (hfc.2.2.2.2.2.2.2.2.2.2 u (List.mem_of_getElem? h1))).2.2 (by omega)
   have HU:Hid (RowU (LtX V.heap.size) V lu r.rules):=Lib.hid hK.2.2.2.2;have hy10:0≤y1:=by omega
   have hy20:0≤y2:=by omega
   have hy30:0≤y3:=by omega
   have HY3:=Lib.hid hy3;have h9:LieL V (ad.add (j * 13)) [.int .i64 r.kind,.string ⟨r.name.toArray⟩,.int .i64 r.n,.slice lp r.parts.length lcp,.int .i64 r.cond.kind,.int .i64 r.cond.n,.string ⟨r.cond.name.toArray⟩,.string ⟨r.cond.op.toArray⟩,.slice lx r.cond.kids.length lcx,.slice lb r.body.length lcb,.slice le r.els.length lce,.slice lu r.rules.length lcu,.int .i64 r.pl]:=h9;have hbt:(ad.add (j * 13)).block<V.heap.size:=by rw[blockX_add];have:=hb.size;omega
   obtain⟨c0,c1,c2,c3,c4,c5,c6,c7,c8,c9,c10,c11,c12⟩:=h9.at13;obtain⟨nu,hnu⟩:∃ x,x=r.rules.length:=⟨_,rfl⟩;have HNU:=Lib.hid hnu;have hnu2:nu≤1000000:=by rw[hnu];exact hfc.2.2.2.2.2.2.2.1
   rw[←hnu] at c11;obtain⟨bs,hbs⟩:∃ bs:List Value,bs=[.int .i64 r.kind,.string ⟨r.name.toArray⟩,.int .i64 r.n,.slice lp r.parts.length lcp,.int .i64 r.cond.kind,.int .i64 r.cond.n,.string ⟨r.cond.name.toArray⟩,.string ⟨r.cond.op.toArray⟩,.slice lx r.cond.kids.length lcx,.slice lb r.body.length lcb,.slice le r.els.length lce,.slice lu nu lcu,.int .i64 r.pl]:=⟨_,rfl⟩;have HBX:=Lib.hid (one_box13 V bs (by rw[hbs];simp) 41);have HNB:Hid (Below V.heap.size V (V.alloc (.cells bs.toArray 41))):=Lib.hid (one_boxX V _);have hBX9:=fun W' hw=>(HBX.out W' hw).at_ 9 _ (by rw[hbs];rfl)
   have hBX10:=fun W' hw=>(HBX.out W' hw).at_ 10 _ (by rw[hbs];rfl)
   have hBX11:=fun W' hw=>(HBX.out W' hw).at_ 11 _ (by rw[hbs];rfl)
   have H9:=Lib.hid hBX9;have H10:=Lib.hid hBX10;have H11:=Lib.hid hBX11;have HBS:=Lib.hid hbs;have hwr1:IntKind.i64.wrap (y1+y2)=y1+y2:=IntWalk.i64_in _ (by omega);have hwr2:IntKind.i64.wrap (x+(y1+y2))=x+(y1+y2):=IntWalk.i64_in _ (by omega);clear hr hQ hfc htk hpt hcc hkr hK hx0 hm0 hg0 hy1 hy2 hy3 hl1 hl2 hl3 h9 hp hb hnu hBX9 hBX10 hBX11 hbs HBX HI;go_wp2;rw[show (#[Value.int .i64 r.kind,.string ⟨r.name.toArray⟩,.int .i64 r.n,.slice lp r.parts.length lcp,.int .i64 r.cond.kind,.int .i64 r.cond.n,.string ⟨r.cond.name.toArray⟩,.string ⟨r.cond.op.toArray⟩,.slice lx r.cond.kids.length lcx,.slice lb r.body.length lcb,.slice le r.els.length lce,.slice lu nu lcu,.int .i64 r.pl]:Array Value)=bs.toArray by rw[HBS.out]];have p9:=bw_cell (H9.out _ (Below.refl _ _));have p10:=bw_cell (H10.out _ (Below.refl _ _));have hne:=bw_some (V.alloc (.cells bs.toArray 41));refine wp_region_below (by kernel_rfl) (by kernel_rfl) ?_
   repeat (go_big_quiet_step (first | (go_at_call 14;with_reducible exact later_bw KB.out HNB.out _) | (go_at_call 14;with_reducible exact later_bw KE.out HNB.out _) | fail))
   refine wpQuiet_nil ?_;intro w5 hw5;obtain⟨m5,rfl⟩:=hw5;have B5:Hid (Below (V.alloc (.cells bs.toArray 41)).heap.size (V.alloc (.cells bs.toArray 41)) m5.at):=Lib.hid m5.2;have b11:=H11.out _ B5.out;have hbV:Below V.heap.size V m5.at:=HNB.out.trans (B5.out.mono HNB.out.size);have HVV:=Lib.hid hbV;clear p9 p10 hne c0 c1 c2 c3 c4 c5 c6 c7 c8 c9 c10 c11 c12 hwr1 hwr2 hbV;obtain⟨x3,hx3⟩:∃ x3,x3=x+(y1+y2):=⟨_,rfl⟩;have hx30:0≤x3:=by omega
   have hx3G:x3+y3≤G:=by omega
   rw[←hx3] at HST ⊢;clear hx3 hbd;go_wp2;clear b11
   go_loopw [3,28] (fun g i wr2=>∃ (q:Nat) (u:Int),q≤nu∧i= .int .i64 q∧g= .int .i64 u∧Hid (u=x3+(ctU (r.rules.take q):Int))∧0≤u∧u≤G∧Below V.heap.size V wr2) (fun _ i _=>nu - (intOf i).toNat)
   case atStart=>exact⟨0,x3,by omega,rfl,rfl,Lib.hid (by rw[List.take_zero,ctU];simp),hx30,by omega,HVV.out⟩
   case round=>
    obtain⟨q,u,hq,rfl,rfl,HUU,hu1,hu2,hbw⟩:=hrel;have HBW:=Lib.hid hbw;by_cases a3:q<nu
    ·obtain⟨ru,hru⟩:=getX_of_lt HNU.out a3
     obtain⟨ad4,B,k4,rfl,hp4,h5,hk4⟩:=rowU_at HU.out hbw hru;have htk3:=ctU_take hru;have hre:=ctR_eq ru;have hpt:=ctU_part r.rules (q+1);obtain⟨z,hz⟩:∃ z:Int,z=(ctL ru.body:Int):=⟨_,rfl⟩;have KR:=KU.out q ru B k4 (wr.alloc (.cells #[.int .i64 ru.kind,.int .i64 ru.peer,.int .i64 ru.pk,.string ⟨ru.pt.toArray⟩,.slice B ru.body.length k4,.int .i64 ru.pl] 65)) hru (hbw.trans ((one_boxX wr _).mono hbw.size)) hk4;rw[←hz] at KR;have hux:=HUU.out;have hy33:=HY3.out;have hz0:0≤z:=by omega
     have hzG:u+z≤G:=by omega
     have HU2:Hid (u+z=x3+(ctU (r.rules.take (q+1)):Int)):=Lib.hid (by omega);obtain⟨d0,d1,d2,d3,d4,d5⟩:=h5.at6;have hbz:(ad4.add (q * 6)).block<wr.heap.size:=World.block_lt_of_cell? wr _ d0;have HKR:=Lib.hid KR;clear hru hp4 h5 hk4 htk3 hre hpt hz hux hy33 hbw KR;go_wp2_with (go_at_call 14;go_must ((with_reducible refine(HKR.out).mono ?_);rintro e w8 ⟨rfl,hb8⟩;have HW8:=Lib.hid (HBW.out.trans (((one_boxX wr _).trans (hb8.mono (by simp))).mono HBW.out.size));clear hb8))
     go_roundw
     case rel=>exact⟨q+1,u+z,by omega,by go_num,rfl,HU2,by omega,hzG,HW8.out⟩
     case measure=>simp[intOf];omega
    ·have HE2:Hid (u+((j+1:Nat):Int)=(m:Int)+(ctL (ks.take (j+1)):Int)):=Lib.hid (by
      have h1:=HUU.out;have h2:=HNU.out;have h3:=HST.out;have h4:=HY3.out;rw[List.take_of_length_le (by omega)] at h1;omega)
     clear hbw;go_wp2
     go_roundw
     case rel=>exact⟨j+1,u,by omega,by go_num,rfl,HE2,hu1,hu2,HB.out.trans (HBW.out.mono HB.out.size)⟩
     case measure=>simp[intOf];omega
  ·have HX2:Hid (x=G):=Lib.hid (by
    have h1:=HX.out;have h2:=HM.out;have h3:=HG.out;rw[List.take_of_length_le (by omega)] at h1;omega)
   go_wp2;go_ret;exact⟨ret_int HX2.out,HB.out⟩
theorem ctl_all:(∀ c,CtK c)∧∀ r:Ru,CtP r.body:=Cm.ind2 (P:=CtK) (Q:=fun r=>CtP r.body) (fun _ _ _ _ _ b e _ _ hb he hu=>⟨ct_list b hb,ct_list e he,hu⟩) (fun _ _ _ _ b _ hb=>ct_list b hb)
theorem countC_any (b:List Cm):CtP b:=ct_list b fun x _=>ctl_all.1 x
def SA:ByteArray:=⟨#[101,120,112,101,99,116,32,123,45,114,101,32,34,97,42,34,32,123,125,32,101,111,102,32,123,101,120,105,116,125,125]⟩
def LA:List Tok:=[⟨1,[101,120,112,101,99,116],0,[],0⟩,⟨4,[123],0,[],7⟩,⟨5,[114,101],0,[],8⟩,⟨3,[],0,[([],[97,42])],12⟩,⟨4,[123],0,[],17⟩,⟨4,[125],0,[],18⟩,⟨1,[101,111,102],0,[],20⟩,⟨4,[123],0,[],24⟩,⟨1,[101,120,105,116],0,[],25⟩,⟨4,[125],0,[],29⟩,⟨4,[125],0,[],30⟩]
theorem scanA:scan SA.data.toList=(some LA,0,0):=by
 have b0:behind SA.data.toList 0=0:=by decide
 have h0:tokR (SA.data.toList.drop 0)= .ok ⟨1,[101,120,112,101,99,116],0,[],0⟩ 6:=by kernel_rfl
 have b1:behind SA.data.toList (0+6)=7:=by decide
 have h1:tokR (SA.data.toList.drop 7)= .ok ⟨4,[123],0,[],0⟩ 1:=by kernel_rfl
 have b2:behind SA.data.toList (7+1)=8:=by decide
 have h2:tokR (SA.data.toList.drop 8)= .ok ⟨5,[114,101],0,[],0⟩ 3:=by kernel_rfl
 have b3:behind SA.data.toList (8+3)=12:=by decide
 have h3:tokR (SA.data.toList.drop 12)= .ok ⟨3,[],0,[([],[97,42])],0⟩ 4:=by kernel_rfl
 have b4:behind SA.data.toList (12+4)=17:=by decide
 have h4:tokR (SA.data.toList.drop 17)= .ok ⟨4,[123],0,[],0⟩ 1:=by kernel_rfl
 have b5:behind SA.data.toList (17+1)=18:=by decide
 have h5:tokR (SA.data.toList.drop 18)= .ok ⟨4,[125],0,[],0⟩ 1:=by kernel_rfl
 have b6:behind SA.data.toList (18+1)=20:=by decide
 have h6:tokR (SA.data.toList.drop 20)= .ok ⟨1,[101,111,102],0,[],0⟩ 3:=by kernel_rfl
 have b7:behind SA.data.toList (20+3)=24:=by decide
 have h7:tokR (SA.data.toList.drop 24)= .ok ⟨4,[123],0,[],0⟩ 1:=by kernel_rfl
 have b8:behind SA.data.toList (24+1)=25:=by decide
 have h8:tokR (SA.data.toList.drop 25)= .ok ⟨1,[101,120,105,116],0,[],0⟩ 4:=by kernel_rfl
 have b9:behind SA.data.toList (25+4)=29:=by decide
 have h9:tokR (SA.data.toList.drop 29)= .ok ⟨4,[125],0,[],0⟩ 1:=by kernel_rfl
 have b10:behind SA.data.toList (29+1)=30:=by decide
 have h10:tokR (SA.data.toList.drop 30)= .ok ⟨4,[125],0,[],0⟩ 1:=by kernel_rfl
 have b11:behind SA.data.toList (30+1)=31:=by decide
 unfold scan;rw[if_neg (by decide),b0,goT_ok _ (by decide) h0,b1,goT_ok _ (by decide) h1,b2,goT_ok _ (by decide) h2,b3,goT_ok _ (by decide) h3,b4,goT_ok _ (by decide) h4,b5,goT_ok _ (by decide) h5,b6,goT_ok _ (by decide) h6,b7,goT_ok _ (by decide) h7,b8,goT_ok _ (by decide) h8,b9,goT_ok _ (by decide) h9,b10,goT_ok _ (by decide) h10,b11,goT_end _ (by decide)]
 rfl
def cmExit:Cm:= .mk 16 [] 0 [] exNone [] [] [] 25
def cmA:Cm:= .mk 12 [] 0 [] exNone [] [] [.mk 1 (-1) 2 [97,42] [] 8,.mk 3 (-1) 0 [] [cmExit] 20] 0
theorem allA:allF LA= .ok [cmA] 11:=by kernel_rfl
theorem parA:parS SA.data.toList=([cmA],0,0):=by
 unfold parS;rw[scanA];show ansS LA _=_;unfold ansS;rw[allA]
def SB:ByteArray:=⟨#[115,101,110,100,32,53]⟩
def LB:List Tok:=[⟨1,[115,101,110,100],0,[],0⟩,⟨2,[],5,[],5⟩]
theorem scanB:scan SB.data.toList=(some LB,0,0):=by
 have b0:behind SB.data.toList 0=0:=by decide
 have h0:tokR (SB.data.toList.drop 0)= .ok ⟨1,[115,101,110,100],0,[],0⟩ 4:=by kernel_rfl
 have b1:behind SB.data.toList (0+4)=5:=by decide
 have h1:tokR (SB.data.toList.drop 5)= .ok ⟨2,[],5,[],0⟩ 1:=by kernel_rfl
 have b2:behind SB.data.toList (5+1)=6:=by decide
 unfold scan;rw[if_neg (by decide),b0,goT_ok _ (by decide) h0,b1,goT_ok _ (by decide) h1,b2,goT_end _ (by decide)]
 rfl
theorem allB:allF LB= .bad 1 false:=by kernel_rfl
theorem parB:parS SB.data.toList=([],5,1):=by
 unfold parS;rw[scanB];show ansS LB _=_;unfold ansS;rw[allB]
 rfl
end Go.Proofs.YtngfihoempcplaaGreatDoor
