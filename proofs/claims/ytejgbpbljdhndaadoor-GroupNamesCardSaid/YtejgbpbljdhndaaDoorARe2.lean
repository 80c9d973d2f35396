import Derived.Lib.AppendStr
import Derived.Deep.RegionLaw
import Derived.Test.YtejgbpbljdhndaaDoorSetW
import Derived.Test.YtejgbpbljdhndaaDoorShelf2
import Derived.Deep.RegionHeld3
import Derived.Deep.DrawnRows
import Derived.Test.YtejgbpbljdhndaaDoorFits
namespace Go.Proofs.YtejgbpbljdhndaaDoor
open Go Go.RowKit
set_option maxRecDepth 100000
set_option maxHeartbeats 4000000
abbrev RowB (B:Nat) (w0 w:World) (v:Value) (t:Bs):Prop:=Row1 5 1 B w0 w v t.length (byteCells t)
theorem Row1.bytes {B:Nat} {w0 w w':World} {v v':Value} {t:Bs} (u:Bs) (h:RowB B w0 w v t) (ho:w'.ownsRow B 5 1 v' (t.length+u.length) (byteCells t++byteCells u)) (hg:w.grownBy w' v.ownBlock):RowB B w0 w' v' (t++u):=by
 have:=h.grown ho hg;unfold RowB;rw[List.length_append];simpa[byteCells,Lib.byteCells] using this
def KeptT (w w':World):Prop:=w.heap.size≤w'.heap.size∧∀ (k:Nat) (cs:Array Value) (T:TypeId),w.heap[k]?=some (.cells cs T (0,0))→T≠5→w'.heap[k]?=some (.cells cs T (0,0))
theorem KeptT.refl (w:World):KeptT w w:=⟨Nat.le_refl _,fun _ _ _ h _=>h⟩
theorem KeptT.trans {a b c:World} (h:KeptT a b) (k:KeptT b c):KeptT a c:=⟨Nat.le_trans h.1 k.1,fun i cs T hi ht=>k.2 i cs T (h.2 i cs T hi ht) ht⟩
theorem KeptT.alloc (w:World) (o:Obj):KeptT w (w.alloc o):=⟨by simp,fun k cs T h _=>by rw[Below.heap_alloc w o k (Array.getElem?_eq_some_iff.1 h).1];exact h⟩
theorem KeptT.drew (w:World):KeptT w w.drew:=⟨Nat.le_refl _,fun _ _ _ h _=>h⟩
theorem KeptT.below {w w':World} (h:Below w.heap.size w w'):KeptT w w':=⟨h.size,fun k cs T hk _=>by rw[h.block k (Array.getElem?_eq_some_iff.1 hk).1];exact hk⟩
theorem z84 {w:World} {B n:Nat} {v:Value} {xs:List Value} (h:w.ownsRow B 5 1 v n xs) {k:Nat} (e:some k=v.ownBlock):∃ cur:Array Value,w.heap[k]?=some (.cells cur 5 (0,0))∧n≤cur.size:=by
 rcases h.2 with ⟨rfl,_⟩ | ⟨g,cap,cur,rfl,_,hh,hc,_,hcs,_⟩
 ·simp[Value.ownBlock] at e
 ·simp only[Value.ownBlock,Option.some.injEq] at e
  subst e;exact⟨cur,hh,by simpa using(show n≤cur.size by rw[hcs];omega)⟩
theorem KeptT.grown {w w':World} {B n:Nat} {v:Value} {xs:List Value} (h:w.ownsRow B 5 1 v n xs) (hg:w.grownBy w' v.ownBlock):KeptT w w':=by
 refine⟨hg.size,fun k cs T hk ht=>?_⟩;rw[hg.block k (Array.getElem?_eq_some_iff.1 hk).1 ?_]
 ·exact hk
 ·intro e
  obtain⟨cur,hh,_⟩:=z84 h e;rw[hk] at hh;injection hh with hh
  injection hh with _ ht'
  exact ht ht'
theorem KeptT.cell {w w':World} {k:Nat} {cs:Array Value} {T:TypeId} (h:KeptT w w') (hk:w.heap[k]?=some (.cells cs T (0,0))) (ht:T≠5) (j:Nat):w'.cell? ⟨k,j,none⟩=cs[j]?:=
 cell_of_row w' k j cs T (0,0) (h.2 k cs T hk ht)
def Keeps1 (w:World) (v:Value) (w':World) (v':Value):Prop:=∀ (k:Nat) (x:Value) (T:TypeId),w.heap[k]?=some (.cells #[x] T (0,0))→some k≠v.ownBlock→w'.heap[k]?=some (.cells #[x] T (0,0))∧some k≠v'.ownBlock
theorem Keeps1.refl (w:World) (v:Value):Keeps1 w v w v:=fun _ _ _ h h'=>⟨h,h'⟩
theorem Keeps1.trans {a b c:World} {u v x:Value} (h:Keeps1 a u b v) (k:Keeps1 b v c x):Keeps1 a u c x:=fun i y T hi hn=>by
 obtain⟨h1,h2⟩:=h i y T hi hn;exact k i y T h1 h2
theorem Keeps1.below {w w':World} (v:Value) (h:Below w.heap.size w w'):Keeps1 w v w' v:=fun k x T hk hn=>⟨by rw[h.block k (Array.getElem?_eq_some_iff.1 hk).1];exact hk,hn⟩
theorem Keeps1.grown {w w':World} {B L:Nat} {v v':Value} {xs':List Value} (ho:w'.ownsRow B 5 1 v' L xs') (hL:2≤L) (hg:w.grownBy w' v.ownBlock):Keeps1 w v w' v':=fun k x T hk hn=>by
 have h1:w'.heap[k]?=some (.cells #[x] T (0,0)):=by rw[hg.block k (Array.getElem?_eq_some_iff.1 hk).1 hn];exact hk
 refine⟨h1,fun e=>?_⟩;obtain⟨cur,hh,hc⟩:=z84 ho e;rw[h1] at hh;injection hh with hh
 injection hh with hcs
 subst hcs;simp at hc;omega
theorem y2w {α:Type} {t:List α} {n:Nat} (h:t.length≤n) (c:α):(t++[c]).length≤n+1:=by rw[List.length_append];simp;omega
def Wrt (B:Nat) (w0 w:World) (v:Value) (t t':Bs) (e:Ending) (w':World):Prop:=∃ v',e= .returned v'∧RowB B w0 w' v' t'∧KeptT w w'∧(1≤t.length→Keeps1 w v w' v')
def setA:ByteArray:=⟨#[92,124,40,41,42,43,63,123,46,91,94,36]⟩
def setJ:ByteArray:=⟨#[93,45,92,94]⟩
theorem x23:Looks setA sgA:=y5d _ (by decide+kernel)
theorem x0o:Looks setJ sgJ:=y5d _ (by decide+kernel)
theorem z6u (B:Nat) (w0 w:World) (vt:Value) (t:Bs) (c:UInt8) (set:ByteArray) (sg:Bs) (hlk:Looks set sg) (ht:t.length≤1000000) (h:RowB B w0 w vt t):
  Calls Tryd.prog 71 #[vt,.int .i64 c.toNat,.string set] w (Wrt B w0 w vt t (t++esc sg c)):=by
 have H:=Lib.hid h;obtain⟨j0,hj,hy0,hy1,hy2⟩:=info_parts info5;obtain⟨v,hv⟩:∃ v,v=Lib.indexByte set.data.toList c:=⟨_,rfl⟩;obtain⟨l1,l2,l3⟩:=hlk c;rw[←hv] at l1 l2 l3;have K:=Lib.hid fun w=>x3x set c v hv.symm w
 obtain⟨y,hy⟩:∃ y:Int,y=(c.toNat:Int):=⟨_,rfl⟩;have hyb:0≤y∧y<256:=by rw[hy];have:=c.toNat_lt;omega
 obtain⟨hyb0,hyb1⟩:=hyb;rw[←hy] at K ⊢;have HY:=Lib.hid hy;by_cases hin:c∈sg
 ·have he:esc sg c=[92,c]:=by unfold esc;rw[if_pos hin]
  have h0:=l1.2 hin;rw[he];clear h he hin l1 hv hlk hy;go_enter Tryd.func71,Tryd.ntmps71;go_wp2_with (first | (go_at_call 81;((with_reducible refine(K.out _).mono ?_));rintro e w1 ⟨rfl,rfl⟩) | (at_builtin;refine wpList_append_own _ rfl (.tmp 12) (.tmp 13) 99 rfl B 5 j0 (.int .u8 0) 1 1 Tryd.underlying99 hj hy0 hy1 hy2 rfl (by decide) _ _ _ rfl (H.out.alloc _).row ⟨w.heap.size,0,none⟩ 1 1 (byteCells [92]) rfl rfl (fun j u hu=>z0l w 5 #[.int .u8 92] j u hu) (z1m _) (by unfold maxLen;omega) (by omega) (H.out.alloc _).size ?_;intro v2 w3 hown' hgrow _;have HG1:=Lib.hid ((KeptT.alloc w _).trans (KeptT.grown (H.out.alloc _).row hgrow));have HK1:Hid (1≤t.length→Keeps1 w vt w3 v2):=Lib.hid (fun hl=>(Keeps1.below vt (z0b w _)).trans (Keeps1.grown hown' (by omega) hgrow));have H3:=Lib.hid ((H.out.alloc _).bytes [92] hown' hgrow);have hl3:=y2w ht (92:UInt8);clear hown' hgrow) | (at_builtin;refine wpList_append_own _ rfl (.tmp 15) (.tmp 18) 99 rfl B 5 j0 (.int .u8 0) 1 1 Tryd.underlying99 hj hy0 hy1 hy2 rfl (by decide) _ _ _ rfl (H3.out.alloc _).row ⟨w3.heap.size,0,none⟩ 1 1 (byteCells [c]) rfl rfl (fun j u hu=>z0l w3 5 #[.int .u8 y] j u (by rw[HY.out];exact hu)) (z1m _) (by unfold maxLen;omega) (by omega) (H3.out.alloc _).size ?_;intro v4 w5 hown5 hgrow5 _));go_ret;refine⟨_,rfl,?_,HG1.out.trans ((KeptT.alloc w3 _).trans (KeptT.grown (H3.out.alloc _).row hgrow5)),fun hl=>(HK1.out hl).trans ((Keeps1.below v2 (z0b w3 _)).trans (Keeps1.grown hown5 (by first | (simp;done) | (simp;omega)) hgrow5))⟩;have:=(H3.out.alloc _).bytes [c] hown5 hgrow5;simpa using this
 ·have he:esc sg c=[c]:=by unfold esc;rw[if_neg hin]
  have h0:¬ 0≤v:=fun x=>hin (l1.1 x)
  rw[he];clear h he hin l1 hv hlk hy;go_enter Tryd.func71,Tryd.ntmps71;go_wp2_with (first | (go_at_call 81;((with_reducible refine(K.out _).mono ?_));rintro e w1 ⟨rfl,rfl⟩) | (at_builtin;refine wpList_append_own _ rfl (.tmp 15) (.tmp 18) 99 rfl B 5 j0 (.int .u8 0) 1 1 Tryd.underlying99 hj hy0 hy1 hy2 rfl (by decide) _ _ _ rfl (H.out.alloc _).row ⟨w.heap.size,0,none⟩ 1 1 (byteCells [c]) rfl rfl (fun j u hu=>z0l w 5 #[.int .u8 y] j u (by rw[HY.out];exact hu)) (z1m _) (by unfold maxLen;omega) (by omega) (H.out.alloc _).size ?_;intro v4 w5 hown5 hgrow5 _));go_ret;exact⟨_,rfl,(H.out.alloc _).bytes [c] hown5 hgrow5,(KeptT.alloc w _).trans (KeptT.grown (H.out.alloc _).row hgrow5),fun hl=>(Keeps1.below vt (z0b w _)).trans (Keeps1.grown hown5 (by first | (simp;done) | (simp;omega)) hgrow5)⟩
theorem z7s (i:Nat) (hi:i≤8) (w:World):Calls Tryd.prog 74 #[.int .i64 i] w fun e w'=>e= .returned (.string ⟨#[dig i]⟩)∧w'=w:=by
 refine(Tryd.strconv_Itoa_small i (by omega) w).mono fun e w' ⟨h1,h2⟩=>⟨?_,h2⟩
 rw[h1,Lib.decDigits,dif_pos (by omega)];unfold dig;simp
theorem y86 (lo hi:Int) (hb:bound lo hi=true) (w:World):Calls Tryd.prog 53 #[.int .i64 lo,.int .i64 hi] w fun e w'=>e= .returned (.string ⟨(signT lo hi).toArray⟩)∧w'=w:=by
 unfold bound at hb;simp only[Bool.and_eq_true,Bool.or_eq_true,decide_eq_true_eq] at hb;obtain⟨h0,h8,hh⟩:=hb;obtain⟨i,rfl⟩:∃ i:Nat,lo=i:=⟨lo.toNat,by omega⟩;have K:Hid (∀ (x:Int) w,x=(i:Int)→Calls Tryd.prog 74 #[.int .i64 x] w fun e w'=>e= .returned (.string ⟨#[dig i]⟩)∧w'=w):=Lib.hid fun x w h=>by rw[h];exact z7s i (by omega) w
 by_cases c1:(i:Int)=0∧hi= -1
 ·have e:signT i hi=[42]:=by unfold signT;rw[if_pos c1]
  rw[e];obtain⟨c1,rfl⟩:=c1;obtain rfl:i=0:=by omega
  clear e K h0 h8 hh c1;go_enter Tryd.func53,Tryd.ntmps53;go_wp2;go_ret;exact⟨rfl,rfl⟩
 ·by_cases c2:(i:Int)=1∧hi= -1
  ·have e:signT i hi=[43]:=by unfold signT;rw[if_neg c1,if_pos c2]
   rw[e];obtain⟨c2,rfl⟩:=c2;obtain rfl:i=1:=by omega
   clear e K h0 h8 hh c1 c2;go_enter Tryd.func53,Tryd.ntmps53;go_wp2;go_ret;exact⟨rfl,rfl⟩
  ·by_cases c3:(i:Int)=0∧hi=1
   ·have e:signT i hi=[63]:=by unfold signT;rw[if_neg c1,if_neg c2,if_pos c3]
    rw[e];obtain⟨c3,rfl⟩:=c3;obtain rfl:i=0:=by omega
    clear e K h0 h8 hh c1 c2 c3;go_enter Tryd.func53,Tryd.ntmps53;go_wp2;go_ret;exact⟨rfl,rfl⟩
   ·by_cases c4:hi=i
    ·have e:signT i hi=[123,dig i,125]:=by unfold signT;rw[if_neg c1,if_neg c2,if_neg c3,if_pos c4]
     rw[e];subst c4;have b1:((i:Int)== -1)=false:=by first | (simp;done) | (simp;omega)
     have b3:(((i:Int)==0) && ((i:Int)==1))=false:=by first | (simp;done) | (simp;omega)
     obtain⟨d,hd⟩:∃ d,d=dig i:=⟨_,rfl⟩;rw[←hd] at K ⊢;clear e h0 h8 hh c1 c2 c3 hd;by_cases z0:(i:Int)=0
     ·obtain rfl:i=0:=by omega
      go_enter Tryd.func53,Tryd.ntmps53;go_wp2_with (go_at_call 74;((with_reducible refine(K.out _ _ ?_).mono ?_));(omega);rintro e w1 ⟨rfl,rfl⟩)
      all_goals (
       go_ret;exact⟨rfl,rfl⟩)
     ·have b0:((i:Int)==0)=false:=by first | (simp;done) | (simp;omega)
      have b0':(i==0)=false:=by first | (simp;done) | (simp;omega)
      go_enter Tryd.func53,Tryd.ntmps53;go_wp2_with (go_at_call 74;((with_reducible refine(K.out _ _ ?_).mono ?_));(omega);rintro e w1 ⟨rfl,rfl⟩)
      all_goals (
       go_ret;exact⟨rfl,rfl⟩)
    ·by_cases c5:hi= -1
     ·have e:signT i hi=[123,dig i,44,125]:=by unfold signT;rw[if_neg c1,if_neg c2,if_neg c3,if_neg c4,if_pos c5]
      rw[e];subst c5;have b0:((i:Int)==0)=false:=by first | (simp;done) | (simp;omega)
      have b1:((i:Int)==1)=false:=by first | (simp;done) | (simp;omega)
      have b2:((-1:Int)==(i:Int))=false:=by first | (simp;done) | (simp;omega)
      have b0':(i==0)=false:=by first | (simp;done) | (simp;omega)
      have b1':(i==1)=false:=by first | (simp;done) | (simp;omega)
      obtain⟨d,hd⟩:∃ d,d=dig i:=⟨_,rfl⟩;rw[←hd] at K ⊢;clear e h0 h8 hh c1 c2 c3 c4 hd;go_enter Tryd.func53,Tryd.ntmps53;go_wp2_with (go_at_call 74;((with_reducible refine(K.out _ _ ?_).mono ?_));(omega);rintro e w1 ⟨rfl,rfl⟩)
      all_goals (
       go_ret;exact⟨rfl,rfl⟩)
     ·obtain⟨j,rfl⟩:∃ j:Nat,hi=j:=⟨hi.toNat,by omega⟩
      have K2:Hid (∀ (x:Int) w,x=(j:Int)→Calls Tryd.prog 74 #[.int .i64 x] w fun e w'=>e= .returned (.string ⟨#[dig j]⟩)∧w'=w):=Lib.hid fun x w h=>by rw[h];exact z7s j (by omega) w
      have e:signT i j=[123,dig i,44,dig j,125]:=by unfold signT;rw[if_neg c1,if_neg c2,if_neg c3,if_neg c4,if_neg c5]
      rw[e];have b1:((j:Int)== -1)=false:=by first | (simp;done) | (simp;omega)
      have b2:((j:Int)==(i:Int))=false:=by first | (simp;done) | (simp;omega)
      have b2':(j==i)=false:=by first | (simp;done) | (simp;omega)
      obtain⟨d,hd⟩:∃ d,d=dig i:=⟨_,rfl⟩;obtain⟨d2,hd2⟩:∃ d,d=dig j:=⟨_,rfl⟩;rw[←hd] at K ⊢;rw[←hd2] at K2 ⊢;have hlt:(i:Int)<j:=by omega
      clear e h0 h8 hh c1 c2 c4 c5 hd hd2;by_cases z0:i=0
      ·subst z0
       have b3:((j:Int)==1)=false:=by first | (simp;done) | (simp;omega)
       have b3':(j==1)=false:=by first | (simp;done) | (simp;omega)
       clear c3;go_enter Tryd.func53,Tryd.ntmps53;go_wp2_with (first | (go_at_call 74;((with_reducible refine(K.out _ _ ?_).mono ?_));(omega);rintro e w1 ⟨rfl,rfl⟩) | (go_at_call 74;((with_reducible refine(K2.out _ _ ?_).mono ?_));(omega);rintro e w1 ⟨rfl,rfl⟩))
       all_goals (
        go_ret;exact⟨rfl,rfl⟩)
      ·have b0:((i:Int)==0)=false:=by first | (simp;done) | (simp;omega)
       have b0':(i==0)=false:=by first | (simp;done) | (simp;omega)
       clear c3 z0;go_enter Tryd.func53,Tryd.ntmps53;go_wp2_with (first | (go_at_call 74;((with_reducible refine(K.out _ _ ?_).mono ?_));(omega);rintro e w1 ⟨rfl,rfl⟩) | (go_at_call 74;((with_reducible refine(K2.out _ _ ?_).mono ?_));(omega);rintro e w1 ⟨rfl,rfl⟩))
       all_goals (
        go_ret;exact⟨rfl,rfl⟩)
theorem z26 (sg:Bs) (c:UInt8):(esc sg c).length≤2:=by unfold esc;split <;> simp
theorem y6q (p:Sp):(itemJ p).length≤5:=by
 unfold itemJ;have:=z26 sgJ p.1;have:=z26 sgJ p.2
 split <;> simp <;> omega
theorem z4a:∀ l:List Sp,(l.flatMap itemJ).length≤5 * l.length
 | []=>by simp
 | p::l=>by
   have:=z4a l;have:=y6q p;rw[List.flatMap_cons,List.length_append,List.length_cons];omega
theorem y0n (S:S4) (n:Nat) (h:n≤256):((runsTo S n).flatMap itemJ).length≤1280:=by
 have:=z4a (runsTo S n);have:=z54 S n;omega
theorem y08 (S:S4):(setText S).length≤1300:=by
 unfold setText
 split
 ·simp
 ·split
  ·have:=z26 sgA (UInt8.ofNat (nxt S 0));omega
  ·split
   ·simp
   ·have:=y0n S 256 (by omega)
    unfold runs;simp only[List.length_cons,List.length_append,List.length_nil];omega
theorem z9e (s:ByteArray):Lib.strCells s=byteCells s.data.toList:=rfl
theorem y7t {S:S4} {lo:Nat} (hlo:lo<256) (hm:mem S lo=true) (h0:lo=0∨mem S (lo - 1)=false):
  ∃ hi:UInt8,lo≤hi.toNat∧nxt (compl S) lo=hi.toNat+1∧runsTo S (nxt S (nxt (compl S) lo))=runsTo S lo++[(UInt8.ofNat lo,hi)]∧(nxt S (nxt (compl S) lo)<256→mem S (nxt S (nxt (compl S) lo))=true∧mem S (nxt S (nxt (compl S) lo) - 1)=false)∧nxt S (nxt (compl S) lo)≤256∧lo<nxt S (nxt (compl S) lo):=by
 obtain⟨b,hb⟩:∃ b,b=nxt (compl S) lo:=⟨_,rfl⟩;rw[←hb];obtain⟨h1,h2,h3,h4⟩:=y23 (compl S) lo (by omega);rw[←hb] at h1 h2 h3 h4;have hin:∀ x,lo≤x→x<b→mem S x=true:=fun x a c=>by have:=h4 x a c;rw[z29] at this;simpa using this
 have hlt:lo<b:=by
  by_cases e:b=lo
  ·have:=h3 (by omega)
   rw[z29,e,hm] at this;cases this
  ·omega
 have hbo:b<256→mem S b=false:=fun h=>by have:=h3 h;rw[z29] at this;simpa using this
 obtain⟨k1,k2,k3,k4⟩:=y23 S b h2;refine⟨UInt8.ofNat (b - 1),by rw[z3s (by omega)];omega,by rw[z3s (by omega)];omega,?_,?_,k2,by omega⟩
 ·have hr:=z8l S lo h0 (b - 1 - lo) (by omega) (fun x a c=>hin x a (by omega))
  rw[show lo+(b - 1 - lo)+1=b by omega,show lo+(b - 1 - lo)=b - 1 by omega] at hr;rw[←hr];have:=z8u S b (nxt S b - b) (fun x a c=>k4 x a (by omega));rw[show b+(nxt S b - b)=nxt S b by omega] at this;exact this
 ·intro h
  refine⟨k3 h,?_⟩;by_cases e:nxt S b=b
  ·rw[e] at h
   have hm2:=k3 (by omega);rw[e] at hm2;rw[hbo h] at hm2;cases hm2
  ·exact k4 _ (by omega) (by omega)
theorem z1p {w w':World} {cs:Array Value} {T:TypeId} (h:KeptT (w.alloc (.cells cs T)) w') (ht:T≠5) (j:Nat):w'.cell? ⟨w.heap.size,j,none⟩=cs[j]?:=h.cell (heap_alloc_new w _) ht j
theorem size6:(⟨#[91,94,0,45,255,93]⟩:ByteArray).size=6:=rfl
theorem x2x {α:Type} (a b c:List α) (x:α):a++(b++x::c)=a++b++[x]++c:=by simp
def LoopJ (B:Nat) (w0 wb:World) (S:S4) (vt:Value) (t:Bs) (v i:Value) (w:World):Prop:=∃ lo:Nat,lo≤256∧i= .int .i64 lo∧(lo<256→mem S lo=true∧(lo=0∨mem S (lo - 1)=false))∧RowB B w0 w v (t++[91]++(runsTo S lo).flatMap itemJ)∧KeptT wb w∧(1≤t.length→Keeps1 wb vt w v)
theorem y8j (B:Nat) (w0 w:World) (vt:Value) (t:Bs) (S:S4) (ht:t.length≤100000) (h:RowB B w0 w vt t):
  Calls Tryd.prog 51 #[vt,.agg #[.int .u64 S.1.toNat,.int .u64 S.2.1.toNat,.int .u64 S.2.2.1.toNat,.int .u64 S.2.2.2.toNat]] w (Wrt B w0 w vt t (t++setText S)):=by
 obtain⟨u,hu⟩:∃ u,u=setText S:=⟨_,rfl⟩;rw[←hu];unfold setText at hu;have H:=Lib.hid h;obtain⟨j0,hj,hy0,hy1,hy2⟩:=info_parts info5;have K44:=Lib.hid fun w=>y92 S w
 have K46:=Lib.hid fun (c:Nat) (hc:c≤256) w=>y0s S c hc w
 have K46c:=Lib.hid fun (c:Nat) (hc:c≤256) w=>y0s (compl S) c hc w
 have K47:=Lib.hid fun w=>y3j S w
 simp only[setV4] at K47
 have hcs:∀ w',KeptT (w.alloc (.cells #[.int .u64 S.1.toNat,.int .u64 S.2.1.toNat,.int .u64 S.2.2.1.toNat,.int .u64 S.2.2.2.toNat] 24)) w'→w'.cell? ⟨w.heap.size,0,none⟩=some (.int .u64 S.1.toNat)∧w'.cell? ⟨w.heap.size,1,none⟩=some (.int .u64 S.2.1.toNat)∧w'.cell? ⟨w.heap.size,2,none⟩=some (.int .u64 S.2.2.1.toNat)∧w'.cell? ⟨w.heap.size,3,none⟩=some (.int .u64 S.2.2.2.toNat):=fun w' hk=>by
  refine⟨z1p hk (by decide) 0,z1p hk (by decide) 1,z1p hk (by decide) 2,z1p hk (by decide) 3⟩
 have HCS:=Lib.hid hcs;clear hcs;obtain⟨s0,hs0⟩:∃ s0:Int,s0=S.1.toNat:=⟨_,rfl⟩;obtain⟨s1,hs1⟩:∃ s1:Int,s1=S.2.1.toNat:=⟨_,rfl⟩;obtain⟨s2,hs2⟩:∃ s2:Int,s2=S.2.2.1.toNat:=⟨_,rfl⟩;obtain⟨s3,hs3⟩:∃ s3:Int,s3=S.2.2.2.toNat:=⟨_,rfl⟩;obtain⟨z0,hz0⟩:∃ s0:Int,s0=(compl S).1.toNat:=⟨_,rfl⟩;obtain⟨z1,hz1⟩:∃ s1:Int,s1=(compl S).2.1.toNat:=⟨_,rfl⟩;obtain⟨z2,hz2⟩:∃ s2:Int,s2=(compl S).2.2.1.toNat:=⟨_,rfl⟩;obtain⟨z3,hz3⟩:∃ s3:Int,s3=(compl S).2.2.2.toNat:=⟨_,rfl⟩;rw[←hs0,←hs1,←hs2,←hs3] at K44 K46 K47 HCS ⊢;rw[←hz0,←hz1,←hz2,←hz3] at K46c K47;obtain⟨n,hn⟩:∃ n,n=cnt (mem S) 256:=⟨_,rfl⟩;rw[←hn] at K44 hu;clear h hs0 hs1 hs2 hs3 hz0 hz1 hz2 hz3;by_cases n0:n=0
 ·rw[if_pos n0] at hu
  have b0:((n:Int)==0)=true:=by simp[n0]
  have b0':(n==0)=true:=by simp[n0]
  have HU:=Lib.hid hu;clear hu hn n0;go_enter Tryd.func51,Tryd.ntmps51;go_wp2_with (first | (go_at_call 70;((with_reducible refine(K44.out _).mono ?_));rintro e w1 ⟨rfl,hb1⟩;have HB1:=Lib.hid ((z0b w _).trans (hb1.mono (by simp)));clear hb1) | (at_builtin;refine Lib.wpList_append_own_string _ rfl (.tmp 11) (.const (.string ⟨#[91,94,0,45,255,93]⟩)) 99 9 rfl B 5 j0 Tryd.underlying99 Tryd.underlying9 hj hy0 hy1 hy2 _ _ _ rfl (H.out.beyond HB1.out).row _ rfl (by rw[size6];unfold maxLen;omega) (by rw[size6];omega) (H.out.beyond HB1.out).size ?_;intro v2 w3 hown' hgrow _));go_ret;refine⟨_,rfl,?_,(KeptT.below HB1.out).trans (KeptT.grown (H.out.beyond HB1.out).row hgrow),fun hl=>(Keeps1.below vt HB1.out).trans (Keeps1.grown hown' (by rw[size6];omega) hgrow)⟩;rw[HU.out];exact(H.out.beyond HB1.out).bytes [91,94,0,45,255,93] hown' hgrow
 ·rw[if_neg n0] at hu
  have b0:((n:Int)==0)=false:=by simp;omega
  have b0':(n==0)=false:=by simp;omega
  by_cases n1:n=1
  ·rw[if_pos n1] at hu
   have b1:((n:Int)==1)=true:=by simp[n1]
   have b1':(n==1)=true:=by simp[n1]
   obtain⟨c,hc1,hc2⟩:=z81 (S:=S) (by omega);have K46':Hid (∀ w,Calls Tryd.prog 72 #[.agg #[.int .u64 s0,.int .u64 s1,.int .u64 s2,.int .u64 s3],.int .i64 0] w fun e w'=>e= .returned (.int .i64 c.toNat)∧Below w.heap.size w w'):=Lib.hid fun w=>by have:=K46.out 0 (by omega) w;rw[hc2] at this;exact this
   have K45:Hid (∀ w1,RowB B w0 w1 vt t→Calls Tryd.prog 71 #[vt,.int .i64 c.toNat,.string ⟨#[92,124,40,41,42,43,63,123,46,91,94,36]⟩] w1 (Wrt B w0 w1 vt t (t++esc sgA c))):=Lib.hid fun w1 h1=>z6u B w0 w1 vt t c setA sgA x23 (by omega) h1
   rw[hc2] at hu;have HU:Hid (u=esc sgA c):=Lib.hid (by rw[hu];simp);clear hu hn n0 n1 hc1 hc2;go_enter Tryd.func51,Tryd.ntmps51;go_wp2_with (first | (go_at_call 70;((with_reducible refine(K44.out _).mono ?_));rintro e w1 ⟨rfl,hb1⟩;have HB1:=Lib.hid ((z0b w _).trans (hb1.mono (by simp)));obtain⟨c0,c1,c2,c3⟩:=HCS.out _ (KeptT.below hb1);clear hb1) | (go_at_call 72;((with_reducible refine(K46'.out _).mono ?_));rintro e w2 ⟨rfl,hb2⟩;have HB2:=Lib.hid (HB1.out.trans (hb2.mono HB1.out.size));clear hb2) | (go_at_call 71;((with_reducible refine(K45.out _ (H.out.beyond HB2.out)).mono ?_));rintro e w3 ⟨v3,rfl,hrow3,hk3,hk4⟩));go_ret;exact⟨_,rfl,by rw[HU.out];exact hrow3,(KeptT.below HB2.out).trans hk3,fun hl=>(Keeps1.below vt HB2.out).trans (hk4 hl)⟩
  ·rw[if_neg n1] at hu
   have b1:((n:Int)==1)=false:=by simp;omega
   have b1':(n==1)=false:=by simp;omega
   by_cases n2:n=256
   ·rw[if_pos n2] at hu
    have b2:((n:Int)==256)=true:=by simp[n2]
    have b2':(n==256)=true:=by simp[n2]
    have HU:=Lib.hid hu;clear hu hn n0 n1 n2;go_enter Tryd.func51,Tryd.ntmps51;go_wp2_with (first | (go_at_call 70;((with_reducible refine(K44.out _).mono ?_));rintro e w1 ⟨rfl,hb1⟩;have HB1:=Lib.hid ((z0b w _).trans (hb1.mono (by simp)));clear hb1) | (at_builtin;refine wpList_append_own _ rfl (.tmp 21) (.tmp 22) 99 rfl B 5 j0 (.int .u8 0) 1 1 Tryd.underlying99 hj hy0 hy1 hy2 rfl (by decide) _ _ _ rfl ((H.out.beyond HB1.out).alloc _).row ⟨w1.heap.size,0,none⟩ 1 1 (byteCells [46]) rfl rfl (fun j u hu=>z0l w1 5 #[.int .u8 46] j u hu) (z1m _) (by unfold maxLen;omega) (by omega) ((H.out.beyond HB1.out).alloc _).size ?_;intro v2 w3 hown' hgrow _));go_ret;refine⟨_,rfl,?_,((KeptT.below HB1.out).trans (KeptT.alloc _ _)).trans (KeptT.grown ((H.out.beyond HB1.out).alloc _).row hgrow),fun hl=>((Keeps1.below vt HB1.out).trans (Keeps1.below vt (z0b w1 _))).trans (Keeps1.grown hown' (by omega) hgrow)⟩;rw[HU.out];exact((H.out.beyond HB1.out).alloc _).bytes [46] hown' hgrow
   ·rw[if_neg n2] at hu
    have b2:((n:Int)==256)=false:=by simp;omega
    have b2':(n==256)=false:=by simp;omega
    have HU:=Lib.hid hu;have K46':Hid (∀ w,Calls Tryd.prog 72 #[.agg #[.int .u64 s0,.int .u64 s1,.int .u64 s2,.int .u64 s3],.int .i64 0] w fun e w'=>e= .returned (.int .i64 (nxt S 0))∧Below w.heap.size w w'):=Lib.hid fun w=>K46.out 0 (by omega) w
    obtain⟨l0,hl0⟩:∃ l0,l0=nxt S 0:=⟨_,rfl⟩
    have HL0:Hid (l0≤256∧(l0<256→mem S l0=true∧(l0=0∨mem S (l0 - 1)=false))∧runsTo S l0=[]):=Lib.hid (by
     obtain⟨k1,k2,k3,k4⟩:=y23 S 0 (by omega);rw[←hl0] at k1 k2 k3 k4;refine⟨k2,fun hlt=>⟨k3 hlt,?_⟩,?_⟩
     ·by_cases e:l0=0
      ·exact .inl e
      ·exact .inr (k4 _ (by omega) (by omega))
     ·have:=z8u S 0 l0 (fun x a b=>k4 x a (by omega))
      rw[Nat.zero_add] at this;rw[this];rfl)
    rw[←hl0] at K46';clear hu hn n0 n1 n2 hl0;go_enter Tryd.func51,Tryd.ntmps51;go_wp2_with (first | (go_at_call 70;((with_reducible refine(K44.out _).mono ?_));rintro e w1 ⟨rfl,hb1⟩;have HB1:=Lib.hid ((z0b w _).trans (hb1.mono (by simp)));have HKb:=Lib.hid (KeptT.below hb1);have HK1b:=Lib.hid (Keeps1.below vt hb1);clear hb1) | (at_builtin;refine wpList_append_own _ rfl (.tmp 24) (.tmp 25) 99 rfl B 5 j0 (.int .u8 0) 1 1 Tryd.underlying99 hj hy0 hy1 hy2 rfl (by decide) _ _ _ rfl ((H.out.beyond HB1.out).alloc _).row ⟨w1.heap.size,0,none⟩ 1 1 (byteCells [91]) rfl rfl (fun j u hu=>z0l w1 5 #[.int .u8 91] j u hu) (z1m _) (by unfold maxLen;omega) (by omega) ((H.out.beyond HB1.out).alloc _).size ?_;intro v2 w3 hown' hgrow _;have H3:=Lib.hid (((H.out.beyond HB1.out).alloc _).bytes [91] hown' hgrow);have HK3:=Lib.hid ((HKb.out.trans (KeptT.alloc _ _)).trans (KeptT.grown ((H.out.beyond HB1.out).alloc _).row hgrow));have HK13:Hid (1≤t.length→Keeps1 _ vt w3 v2):=Lib.hid (fun hl=>(HK1b.out.trans (Keeps1.below vt (z0b w1 _))).trans (Keeps1.grown hown' (by omega) hgrow));obtain⟨c0,c1,c2,c3⟩:=HCS.out _ HK3.out;clear hown' hgrow) | (go_at_call 72;((with_reducible refine(K46'.out _).mono ?_));rintro e w4 ⟨rfl,hb4⟩;have H4:=Lib.hid (H3.out.beyond hb4);have HK4:=Lib.hid (HK3.out.trans (KeptT.below hb4));have HK14:Hid (1≤t.length→Keeps1 _ vt w4 v2):=Lib.hid (fun hl=>(HK13.out hl).trans (Keeps1.below v2 hb4));clear hb4))
    go_loopw [0,5] (fun v i wr=>LoopJ B w0 (w.alloc (.cells #[.int .u64 s0,.int .u64 s1,.int .u64 s2,.int .u64 s3] 24)) S vt t v i wr) (fun _ i _=>256 - (intOf i).toNat)
    case atStart=>exact⟨l0,HL0.out.1,rfl,HL0.out.2.1,by rw[HL0.out.2.2,List.flatMap_nil,List.append_nil];exact H4.out,HK4.out,HK14.out⟩
    case round=>
     obtain⟨lo,hlo,rfl,hm,hrow,hk,hk1⟩:=hrel;have HT:=Lib.hid hrow;have HKT:=Lib.hid hk;have HK1:=Lib.hid hk1
     have hlen:(t++[91]++(runsTo S lo).flatMap itemJ).length≤101300:=by
      have:=y0n S lo hlo;simp only[List.length_append,List.length_singleton];omega
     obtain⟨d0,d1,d2,d3⟩:=HCS.out _ hk;clear hrow hk hk1;by_cases a:lo<256
     ·obtain⟨hmm,hm0⟩:=hm a
      obtain⟨hi,q1,q2,q3,q4,q5,q6⟩:=y7t a hmm hm0;obtain⟨nx,hnx⟩:∃ nx,nx=nxt S (nxt (compl S) lo):=⟨_,rfl⟩;rw[←hnx] at q3 q4 q5 q6
      have KC:Hid (∀ w,Calls Tryd.prog 72 #[.agg #[.int .u64 z0,.int .u64 z1,.int .u64 z2,.int .u64 z3],.int .i64 lo] w fun e w'=>e= .returned (.int .i64 ((hi.toNat:Int)+1))∧Below w.heap.size w w'):=Lib.hid fun w=>by
       have:=K46c.out lo hlo w;rw[q2] at this;exact_mod_cast this
      have KN:Hid (∀ w,Calls Tryd.prog 72 #[.agg #[.int .u64 s0,.int .u64 s1,.int .u64 s2,.int .u64 s3],.int .i64 ((hi.toNat:Int)+1)] w fun e w'=>e= .returned (.int .i64 nx)∧Below w.heap.size w w'):=Lib.hid fun w=>by
       have:=K46.out (hi.toNat+1) (by have:=hi.toNat_lt;omega) w;rw[←q2,←hnx,q2] at this;exact_mod_cast this
      obtain⟨x,hx⟩:∃ x:UInt8,x=UInt8.ofNat lo:=⟨_,rfl⟩;have hxl:x.toNat=lo:=by rw[hx];exact z3s a
      have KX:Hid (∀ w1 v1 t1,t1.length≤1000000→RowB B w0 w1 v1 t1→Calls Tryd.prog 71 #[v1,.int .i64 lo,.string ⟨#[93,45,92,94]⟩] w1 (Wrt B w0 w1 v1 t1 (t1++esc sgJ x))):=Lib.hid fun w1 v1 t1 ht1 h1=>by rw[←hxl];exact z6u B w0 w1 v1 t1 x setJ sgJ x0o ht1 h1
      have KY:Hid (∀ w1 v1 t1,t1.length≤1000000→RowB B w0 w1 v1 t1→Calls Tryd.prog 71 #[v1,.int .i64 hi.toNat,.string ⟨#[93,45,92,94]⟩] w1 (Wrt B w0 w1 v1 t1 (t1++esc sgJ hi))):=Lib.hid fun w1 v1 t1 ht1 h1=>z6u B w0 w1 v1 t1 hi setJ sgJ x0o ht1 h1
      have hit:itemJ (x,hi)=esc sgJ x++if (lo:Int)<(hi.toNat:Int) then 45::esc sgJ hi else []:=by unfold itemJ;dsimp only;rw[hxl]
      have HQ3:Hid ((runsTo S nx).flatMap itemJ=(runsTo S lo).flatMap itemJ++itemJ (x,hi)):=Lib.hid (by rw[q3,List.flatMap_append,←hx];simp);have HQ4:Hid (nx<256→mem S nx=true∧(nx=0∨mem S (nx - 1)=false)):=Lib.hid fun h=>⟨(q4 h).1,.inr (q4 h).2⟩
      obtain⟨y,hy⟩:∃ y:Nat,y=hi.toNat:=⟨_,rfl⟩;have hy256:y<256:=by rw[hy];exact hi.toNat_lt
      rw[←hy] at KC KN KY hit q1;have hel:=z26 sgJ x;obtain⟨t1,ht1⟩:∃ t1,t1=t++[91]++(runsTo S lo).flatMap itemJ:=⟨_,rfl⟩;rw[←ht1] at HT hlen;have HT1:=Lib.hid ht1;clear hm hmm hm0 q2 q3 q4 hnx hx hxl hy ht1;by_cases l1:lo<y
      ·rw[if_pos (by omega)] at hit
       have HI:=Lib.hid hit;clear hit;have sx:((y:Int)+1 - 1)=(y:Int):=by omega
       go_wp2_with (first
        | (go_at_call 73;((with_reducible refine(K47.out _).mono ?_));rintro e w5 ⟨rfl,hb5⟩;have H5:=Lib.hid (HT.out.beyond hb5);have HK5:=Lib.hid (HKT.out.trans (KeptT.below hb5));have HK15:Hid (1≤t.length→Keeps1 _ vt w5 _):=Lib.hid (fun hl=>(HK1.out hl).trans (Keeps1.below _ hb5));clear hb5)
        | (go_at_call 72;((with_reducible refine(KC.out _).mono ?_));rintro e w6 ⟨rfl,hb6⟩;have H6:=Lib.hid (H5.out.beyond hb6);have HK6:=Lib.hid (HK5.out.trans (KeptT.below hb6));have HK16:Hid (1≤t.length→Keeps1 _ vt w6 _):=Lib.hid (fun hl=>(HK15.out hl).trans (Keeps1.below _ hb6));clear hb6)
        | (go_at_call 71;((with_reducible refine(KX.out _ _ _ ?_ H6.out).mono ?_));(omega);rintro e w7 ⟨v7,rfl,hrow7,hk7,hk17⟩;have H7:=Lib.hid hrow7;have HK7:=Lib.hid (HK6.out.trans hk7);have HK17:Hid (1≤t.length→Keeps1 _ vt w7 v7):=Lib.hid (fun hl=>(HK16.out hl).trans (hk17 (by rw[HT1.out];simp;omega)));have hl7:(t1++esc sgJ x).length≤101302:=(by simp only[List.length_append];omega);clear hrow7 hk7 hk17)
        | (at_builtin;refine wpList_append_own _ rfl (.tmp 42) (.tmp 43) 99 rfl B 5 j0 (.int .u8 0) 1 1 Tryd.underlying99 hj hy0 hy1 hy2 rfl (by decide) _ _ _ rfl (H7.out.alloc _).row ⟨w7.heap.size,0,none⟩ 1 1 (byteCells [45]) rfl rfl (fun j u hu=>z0l w7 5 #[.int .u8 45] j u hu) (z1m _) (by unfold maxLen;omega) (by omega) (H7.out.alloc _).size ?_;intro v8 w8 hown8 hgrow8 _;have H8:=Lib.hid ((H7.out.alloc _).bytes [45] hown8 hgrow8);have HK8:=Lib.hid ((HK7.out.trans (KeptT.alloc _ _)).trans (KeptT.grown (H7.out.alloc _).row hgrow8));have HK18:Hid (1≤t.length→Keeps1 _ vt w8 v8):=Lib.hid (fun hl=>((HK17.out hl).trans (Keeps1.below _ (z0b w7 _))).trans (Keeps1.grown hown8 (by rw[HT1.out];simp;omega) hgrow8));have hl8:=y2w hl7 (45:UInt8);clear hown8 hgrow8)
        | (go_at_call 71;((with_reducible refine(KY.out _ _ _ ?_ H8.out).mono ?_));(omega);rintro e w9 ⟨v9,rfl,hrow9,hk9,hk19⟩;have H9:=Lib.hid hrow9;have HK9:=Lib.hid (HK8.out.trans hk9);have HK19:Hid (1≤t.length→Keeps1 _ vt w9 v9):=Lib.hid (fun hl=>(HK18.out hl).trans (hk19 (by simp;omega)));obtain⟨e0,e1,e2,e3⟩:=HCS.out _ HK9.out;clear hrow9 hk9 hk19)
        | (go_at_call 72;((with_reducible refine(KN.out _).mono ?_));rintro e w10 ⟨rfl,hb10⟩))
       go_roundw
       case rel=>exact⟨nx,q5,rfl,HQ4.out,by have:=H9.out.beyond hb10;rw[HQ3.out,HI.out,←List.append_assoc,←HT1.out,x2x];exact this,HK9.out.trans (KeptT.below hb10),fun hl=>(HK19.out hl).trans (Keeps1.below _ hb10)⟩
       case measure=>simp[intOf];omega
      ·rw[if_neg (by omega),List.append_nil] at hit
       have HI:=Lib.hid hit;obtain rfl:lo=y:=by omega
       clear hit;have sx:((lo:Int)+1 - 1)=(lo:Int):=by omega
       go_wp2_with (first
        | (go_at_call 73;((with_reducible refine(K47.out _).mono ?_));rintro e w5 ⟨rfl,hb5⟩;have H5:=Lib.hid (HT.out.beyond hb5);have HK5:=Lib.hid (HKT.out.trans (KeptT.below hb5));have HK15:Hid (1≤t.length→Keeps1 _ vt w5 _):=Lib.hid (fun hl=>(HK1.out hl).trans (Keeps1.below _ hb5));clear hb5)
        | (go_at_call 72;((with_reducible refine(KC.out _).mono ?_));rintro e w6 ⟨rfl,hb6⟩;have H6:=Lib.hid (H5.out.beyond hb6);have HK6:=Lib.hid (HK5.out.trans (KeptT.below hb6));have HK16:Hid (1≤t.length→Keeps1 _ vt w6 _):=Lib.hid (fun hl=>(HK15.out hl).trans (Keeps1.below _ hb6));clear hb6)
        | (go_at_call 71;((with_reducible refine(KX.out _ _ _ ?_ H6.out).mono ?_));(omega);rintro e w7 ⟨v7,rfl,hrow7,hk7,hk17⟩;have H7:=Lib.hid hrow7;have HK7:=Lib.hid (HK6.out.trans hk7);have HK17:Hid (1≤t.length→Keeps1 _ vt w7 v7):=Lib.hid (fun hl=>(HK16.out hl).trans (hk17 (by rw[HT1.out];simp;omega)));obtain⟨e0,e1,e2,e3⟩:=HCS.out _ HK7.out;clear hrow7 hk7 hk17)
        | (go_at_call 72;((with_reducible refine(KN.out _).mono ?_));rintro e w10 ⟨rfl,hb10⟩))
       go_roundw
       case rel=>exact⟨nx,q5,rfl,HQ4.out,by have:=H7.out.beyond hb10;rw[HQ3.out,HI.out,←List.append_assoc,←HT1.out];exact this,HK7.out.trans (KeptT.below hb10),fun hl=>(HK17.out hl).trans (Keeps1.below _ hb10)⟩
       case measure=>simp[intOf];omega
     ·obtain rfl:lo=256:=by omega
      obtain⟨t1,ht1⟩:∃ t1,t1=t++[91]++(runsTo S 256).flatMap itemJ:=⟨_,rfl⟩;rw[←ht1] at HT hlen;have HT1:=Lib.hid ht1;clear ht1 hm;go_wp2_with (at_builtin;refine wpList_append_own _ rfl (.tmp 51) (.tmp 52) 99 rfl B 5 j0 (.int .u8 0) 1 1 Tryd.underlying99 hj hy0 hy1 hy2 rfl (by decide) _ _ _ rfl (HT.out.alloc _).row ⟨wr.heap.size,0,none⟩ 1 1 (byteCells [93]) rfl rfl (fun j u hu=>z0l wr 5 #[.int .u8 93] j u hu) (z1m _) (by unfold maxLen;omega) (by omega) (HT.out.alloc _).size ?_;intro v8 w8 hown8 hgrow8 _);go_ret;refine⟨_,rfl,?_,((KeptT.alloc w _).trans HKT.out).trans ((KeptT.alloc _ _).trans (KeptT.grown (HT.out.alloc _).row hgrow8)),fun hl=>((Keeps1.below vt (z0b w _)).trans (HK1.out hl)).trans ((Keeps1.below _ (z0b wr _)).trans (Keeps1.grown hown8 (by rw[HT1.out];simp;omega) hgrow8))⟩;have:=(HT.out.alloc _).bytes [93] hown8 hgrow8;rw[HT1.out] at this;rw[HU.out];unfold runs;simpa using this
section
attribute [local go_sem ↓] Go.wp_at_zero Go.wp_at_succ
section
variable {P:Program} (w:World)
theorem z3x {ops:Array Oper} {o:Oper} {a:Act} {K:Act→World→Prop} {Q:Exit→Act→World→Prop} {E:Prop} (hgd:o.guard=none) (s x:Operand) (t:TypeId)
  (ho:o.op= .call { callee:= .builtin .append,args:=#[s,x],argTypes:=#[t,t] })
  (base:Nat) (e:TypeId) (i:TypeInfo) (z:Value) (size bytes:Nat) (ht:P.underlying t=some (.slice e)) (hi:P.info? e=some i) (hz:i.zero=some z)
  (hsize:i.size=size) (hby:i.bytes=bytes) (hzs:z.cells.size=size) (hsz:0<size)
  (v:Value) (n:Nat) (xs:List Value) (hs:a.eval s=v) (hown:w.ownsRow base e size v n xs)
  (ad:Addr) (m c:Nat) (news:List Value) (hx:a.eval x= .slice (some ad) m c) (hl:news.length=m * size) (hnews:∀ j u,news[j]?=some u→w.cell? (ad.add j)=some u) (h1:∀ u∈news,u.oneCell'=true)
  (h63:n+m≤maxLen) (hbytes:(n+m) * bytes≤140737488355328) (hbase:base≤w.heap.size)
  (h:∀ v' w',w'.ownsRow base e size v' (n+m) (xs++news)→w.grownBy w' v.ownBlock→(v'= .slice none 0 0 ↔ v= .slice none 0 0∧m=0)→K (a.put o.dst v') w'):
  if Region.wanted o (yielded ops a.tmps)=true then Oper.wp P o a w K Q else E:=by
 have hw:Region.wanted o (yielded ops a.tmps)=true:=by simp[Region.wanted,hgd]
 rw[if_pos hw];exact wp_append_own w s x t ho base e i z size bytes ht hi hz hsize hby hzs hsz v n xs hs hown ad m c news hx hl hnews h1 h63 hbytes hbase h
theorem z5z {ops:Array Oper} {o:Oper} {a:Act} {K:Act→World→Prop} {Q:Exit→Act→World→Prop} {E:Prop} (hgd:o.guard=none) (sl x:Operand) (t u:TypeId)
  (ho:o.op= .call { callee:= .builtin .append,args:=#[sl,x],argTypes:=#[t,u] })
  (base:Nat) (e:TypeId) (i:TypeInfo) (ht:P.underlying t=some (.slice e)) (hu:P.underlying u=some .string) (hi:P.info? e=some i) (hz:i.zero=some (.int .u8 0))
  (hsize:i.size=1) (hby:i.bytes=1)
  (v:Value) (n:Nat) (xs:List Value) (hs:a.eval sl=v) (hown:w.ownsRow base e 1 v n xs) (s:ByteArray) (hx:a.eval x= .string s)
  (h63:n+s.size≤maxLen) (hbytes:n+s.size≤140737488355328) (hbase:base≤w.heap.size)
  (h:∀ v' w',w'.ownsRow base e 1 v' (n+s.size) (xs++Lib.strCells s)→w.grownBy w' v.ownBlock→(v'= .slice none 0 0 ↔ v= .slice none 0 0∧s.size=0)→K (a.put o.dst v') w'):
  if Region.wanted o (yielded ops a.tmps)=true then Oper.wp P o a w K Q else E:=by
 have hw:Region.wanted o (yielded ops a.tmps)=true:=by simp[Region.wanted,hgd]
 rw[if_pos hw];obtain⟨v',w',hr,h2,h3,h4⟩:=Lib.run_append_own_string (P:=P) w base t u o.type e i ht hu hi hz hsize hby v n xs hown s h63 hbytes hbase
 have hrun:(execOp a.eval o).run P w= .ok (.value v') w':=by
  unfold execOp;simp only[ho,resolve,invoke,builtin,Sem.run_bind,Sem.run_pure,Result.andThen_ok,List.map_toArray,List.map_cons,List.map_nil,hs,hx,hr]
 unfold Oper.wp;rw[hrun];exact h v' w' h2 h3 h4
end
def CutT (full t':Bs):Prop:=(full.length≤200→t'=full)∧(200<full.length→200<t'.length)∧t'.length≤full.length
theorem CutT.refl (t:Bs):CutT t t:=⟨fun _=>rfl,fun h=>h,Nat.le_refl _⟩
theorem CutT.step {full t1 u t2:Bs} (h:CutT full t1) (k:CutT (t1++u) t2):CutT (full++u) t2:=by
 obtain⟨h1,h2,h3⟩:=h;obtain⟨k1,k2,k3⟩:=k;simp only[List.length_append] at k1 k2 k3;refine⟨fun hl=>?_,fun hl=>?_,?_⟩
 ·rw[List.length_append] at hl
  have e:=h1 (by omega);subst e;exact k1 (by omega)
 ·rw[List.length_append] at hl
  by_cases c:full.length≤200
  ·have e:=h1 c
   subst e;exact k2 (by omega)
  ·have:=h2 (by omega)
   exact k2 (by omega)
 ·rw[List.length_append];omega
theorem CutT.past {full t1:Bs} (u:Bs) (h:CutT full t1) (hl:200<t1.length):CutT (full++u) t1:=by
 obtain⟨h1,h2,h3⟩:=h;refine⟨fun hl'=>?_,fun _=>hl,?_⟩
 ·rw[List.length_append] at hl'
  have:=h1 (by omega);subst this;omega
 ·rw[List.length_append];omega
theorem CutT.pos {full t':Bs} (h:CutT full t') {n:Nat} (hn:n≤200) (hf:n≤full.length):n≤t'.length:=by
 by_cases c:full.length≤200
 ·rw[h.1 c];exact hf
 ·have:=h.2.1 (by omega);omega
def WrtC (B:Nat) (w0 w:World) (v:Value) (t full:Bs) (e:Ending) (w':World):Prop:=∃ v' t',e= .returned v'∧CutT full t'∧RowB B w0 w' v' t'∧KeptT w w'∧(1≤t.length→Keeps1 w v w' v')
def AReC (r:Re):Prop:=∀ (B:Nat) (w0 w:World) (v:Value) (t:Bs) (A:Option Addr) (c lv d g g':Nat),RowB B w0 w v t→Kids (Lt B) w0 A r→form r lv d g=some g'→lv≤3→(t++textE r).length≤900000→
 Calls Tryd.prog 37 #[v,valR r A c] w (WrtC B w0 w v t (t++textE r))
theorem x3l (sg:Bs) (c:UInt8):1≤(esc sg c).length:=by unfold esc;split <;> simp
theorem y3v (S:S4):1≤(setText S).length:=by
 unfold setText
 split
 ·simp
 ·split
  ·exact x3l _ _
  ·split
   ·simp
   ·simp
theorem y2z (lo hi:Int):1≤(signT lo hi).length:=by
 unfold signT
 split
 ·simp
 ·split
  ·simp
  ·split
   ·simp
   ·split
    ·simp
    ·split <;> simp
theorem x1m {r:Re} {d g g':Nat} (h:form r 1 d g=some g'):1≤(textE r).length:=by
 obtain⟨k,S,ks,lo,hi,n⟩:=r;rw[form] at h
 split at h
 ·rename_i hh
  obtain⟨h1,_⟩:=hh;unfold lev at h1;rw[textE];by_cases k1:k=1
  ·rw[if_pos k1];exact y3v S
  ·rw[if_neg k1]
   by_cases k2:k=2
   ·rw[if_pos k2];simp
   ·rw[if_neg k2]
    by_cases k3:k=3
    ·rw[if_pos k3];simp
    ·rw[if_neg k3]
     by_cases k7:k=7
     ·rw[if_pos k7];simp
     ·rw[if_neg k7]
      by_cases k6:k=6
      ·rw[if_pos k6,List.length_append]
       have:=y2z lo hi;omega
      ·exfalso
       rw[if_neg (by omega),if_neg k6] at h1
       split at h1
       ·omega
       ·split at h1 <;> omega
 ·cases h
theorem z39 {lv d:Nat}:∀ {l:List Re} {g g' k:Nat} {r:Re},formL l lv d g=some g'→l[k]?=some r→∃ g1 g2,form r lv d g1=some g2
 | [],g,g',k,r,h,hk=>by simp at hk
 | x::l,g,g',0,r,h,hk=>by
   injection hk with hk;subst hk
   rw[formL] at h
   cases hx:form x lv d g with
   | none=>rw[hx] at h;cases h
   | some g1=>exact⟨g,g1,hx⟩
 | x::l,g,g',k+1,r,h,hk=>by
   rw[formL] at h
   cases hx:form x lv d g with
   | none=>rw[hx] at h;cases h
   | some g1=>
     rw[hx] at h;exact z39 (k:=k) (r:=r) h (by simpa using hk)
theorem y3e {sep:Bs} {l:List Re} {k:Nat} {r:Re} (h:l[k]?=some r):joinT sep (l.take (k+1))=if k=0 then textE r else joinT sep (l.take k)++(sep++textE r):=by
 obtain⟨hk,e⟩:=List.getElem?_eq_some_iff.1 h;rw[List.take_succ_eq_append_getElem hk,e,y3s];by_cases h0:k=0
 ·subst h0;simp
 ·rw[if_neg h0,if_neg]
  intro hn;rw[List.take_eq_nil_iff] at hn
  rcases hn with hn | hn
  ·exact h0 hn
  ·subst hn;simp at hk
theorem z78 {sep:Bs} {l:List Re} {k:Nat} {r:Re} (h:l[k]?=some r):joinT sep (l.take (k+1))=joinT sep (l.take k)++((if k=0 then [] else sep)++textE r):=by
 rw[y3e h];by_cases h0:k=0
 ·subst h0;simp[joinT]
 ·rw[if_neg h0,if_neg h0]
theorem box9 {w w':World} {c0 c1 c2 c3 c4 c5 c6 c7 c8:Value} (h:KeptT (w.alloc (.cells #[c0,c1,c2,c3,c4,c5,c6,c7,c8] 27)) w'):w'.cell? ⟨w.heap.size,0,none⟩=some c0∧w'.cell? ⟨w.heap.size,1,none⟩=some c1∧w'.cell? ⟨w.heap.size,2,none⟩=some c2∧w'.cell? ⟨w.heap.size,3,none⟩=some c3∧w'.cell? ⟨w.heap.size,4,none⟩=some c4∧w'.cell? ⟨w.heap.size,5,none⟩=some c5∧w'.cell? ⟨w.heap.size,6,none⟩=some c6∧w'.cell? ⟨w.heap.size,7,none⟩=some c7∧w'.cell? ⟨w.heap.size,8,none⟩=some c8:=
 ⟨z1p h (by decide) 0,z1p h (by decide) 1,z1p h (by decide) 2,z1p h (by decide) 3,z1p h (by decide) 4,z1p h (by decide) 5,z1p h (by decide) 6,z1p h (by decide) 7,z1p h (by decide) 8⟩
theorem y1y (sep:Bs) (l:List Re) (k:Nat):(joinT sep (l.take k)).length≤(joinT sep l).length:=by
 have tl:∀ (l:List Re) (k:Nat),(tailT sep (l.take k)).length≤(tailT sep l).length:=by
  intro l
  induction l with
  | nil=>intro k;simp[tailT]
  | cons x l ih=>
    intro k
    cases k with
    | zero=>simp[tailT]
    | succ k=>rw[List.take_succ_cons,tailT,tailT];have:=ih k;simp only[List.length_append];omega
 cases l with
 | nil=>simp
 | cons x l=>
   cases k with
   | zero=>simp[joinT]
   | succ k=>rw[List.take_succ_cons,joinT,joinT];have:=tl l k;simp only[List.length_append];omega
def LoopK (B:Nat) (w0 wb:World) (ks:List Re) (sep:Bs) (vt:Value) (t:Bs) (v i:Value) (w:World):Prop:=∃ (j:Nat) (tj:Bs),j≤ks.length∧i= .int .i64 j∧CutT (t++joinT sep (ks.take j)) tj∧RowB B w0 w v tj∧KeptT wb w∧(1≤t.length→Keeps1 wb vt w v∧(0<j→2≤tj.length+sep.length))
theorem y0p (ks:List Re) (hc:∀ x∈ks,AReC x) (sep:ByteArray) (hsep:sep.size≤1) (B:Nat) (w0 w:World) (vt:Value) (t:Bs) (A:Option Addr) (c lv d g g':Nat) (h:RowB B w0 w vt t) (hk:Kids (Lt B) w0 A (kidsOf ks)) (hf:formL ks lv d g=some g') (hlv:lv≤3)
  (hl:(t++joinT sep.data.toList ks).length≤900000) (hmax:ks.length≤1000000) (hne1:sep.size=0→∀ x∈ks,1≤(textE x).length):
  Calls Tryd.prog 52 #[vt,.slice A ks.length c,.string sep] w (WrtC B w0 w vt t (t++joinT sep.data.toList ks)):=by
 obtain⟨m,hm⟩:∃ m,m=ks.length:=⟨_,rfl⟩;obtain⟨sp,hsp⟩:∃ sp,sp=sep.data.toList:=⟨_,rfl⟩;have hspl:sp.length=sep.size:=by rw[hsp];exact z0o sep
 rw[←hsp] at hl ⊢;rw[←hm] at hmax ⊢;have H:=Lib.hid h;have HC:=Lib.hid hc;have HK:=Lib.hid hk;have HF:=Lib.hid hf;have HL:=Lib.hid hl;have HM:=Lib.hid hm;have HN:=Lib.hid hne1;have HSP:=Lib.hid hsp;obtain⟨j0,hj,hy0,hy1,hy2⟩:=info_parts info5;clear h hc hk hf hl hm hne1 hsp;go_enter Tryd.func52,Tryd.ntmps52;go_wp2
 go_loopw [0,11] (fun v i wr=>LoopK B w0 w ks sp vt t v i wr) (fun _ i _=>m - (intOf i).toNat)
 case atStart=>exact⟨0,t,by omega,rfl,by simp[joinT];exact CutT.refl _,H.out,KeptT.refl _,fun _=>⟨Keeps1.refl _ _,fun h=>by omega⟩⟩
 case round=>
  obtain⟨j,tj,hjm,rfl,hcut,hrow,hkt,hk1⟩:=hrel;have HT:=Lib.hid hrow;have HCU:=Lib.hid hcut;have HKT:=Lib.hid hkt;have HK1:=Lib.hid hk1;rw[←HM.out] at hjm;clear hrow hcut hkt hk1;by_cases a:j<m
  ·obtain⟨r,hr⟩:=z0u HM.out a
   obtain⟨ad,A',c',rfl,hp,h9,hkr⟩:=z2t HK.out hr;have h9:=h9.keep (w':=wr) (fun o=>HT.out.below.cell (by show (ad.add (j * 9)).block<B;rw[z0j];exact hp)) (HT.out.below.cell (by rw[z0j];exact hp));have hmem:=List.mem_of_getElem? hr;obtain⟨g1,g2,hfr⟩:=z39 HF.out hr;have htk:=z78 (sep:=sp) hr;have hle:=y1y sp ks (j+1);have hll:=HL.out;rw[List.length_append] at hll;have hcl:=HCU.out.2.2;rw[List.length_append] at hcl;have K:∀ w1 v1 t1,RowB B w0 w1 v1 t1→(t1++textE r).length≤900000→Calls Tryd.prog 37 #[v1,valR r A' c'] w1 (WrtC B w0 w1 v1 t1 (t1++textE r)):=fun w1 v1 t1 h1 h2=>HC.out r hmem B w0 w1 v1 t1 A' c' lv d g1 g2 h1 hkr hfr hlv h2
   have hn1:=fun h=>HN.out h r hmem
   obtain⟨u,hu⟩:∃ u,u=textE r:=⟨_,rfl⟩;rw[←hu] at K htk hn1;obtain⟨J,hJ⟩:∃ J,J=joinT sp (ks.take j):=⟨_,rfl⟩;have hF:(joinT sp (ks.take (j+1))).length≤(joinT sp ks).length:=hle;rw[htk] at hF;rw[←hJ] at hcl hF htk HCU;simp only[List.length_append] at hF;have HTK:=Lib.hid htk;obtain⟨F,hF0⟩:∃ F:Nat,F=(joinT sp ks).length:=⟨_,rfl⟩;rw[←hF0] at hll hF;obtain⟨k',S',ks',lo',hi',n'⟩:=r;simp only[valR] at K;have HKC:=Lib.hid K;obtain⟨d0,d1,d2,d3,d4,d5,d6,d7,d8⟩:=h9;clear hr hkr hmem hfr htk hle K hu hJ hF0;by_cases hj0:j=0
   ·rw[if_pos hj0] at hF HTK
    simp only[List.length_nil] at hF;have b0:decide ((0:Int)<(j:Int))=false:=by simp[hj0]
    have b0':decide (0<j)=false:=by simp[hj0]
    have hbd:(tj++u).length≤900000:=by rw[List.length_append];omega
    have HJ0:=Lib.hid hj0;clear hj0;go_wp2_with (go_at_call 37;((with_reducible refine(HKC.out _ _ _ (HT.out.alloc _) hbd).mono ?_));rintro e w5 ⟨v5,t5,rfl,hc5,hrow5,hk5,hk15⟩)
    go_roundw
    case rel=>
     refine⟨j+1,t5,by rw[←HM.out];omega,by go_num,?_,hrow5,HKT.out.trans ((KeptT.alloc _ _).trans hk5),fun hl1=>?_⟩
     ·rw[HTK.out]
      have:=HCU.out.step hc5;simpa using this
     ·have htj:=HCU.out.pos (n:=1) (by omega) (by rw[List.length_append];omega)
      refine⟨((HK1.out hl1).1.trans (Keeps1.below _ (z0b wr _))).trans (hk15 htj),fun _=>?_⟩;by_cases hs0:sep.size=0
      ·have:=hc5.pos (n:=2) (by omega) (by rw[List.length_append];have:=hn1 hs0;omega)
       omega
      ·have:=hc5.pos (n:=1) (by omega) (by rw[List.length_append];omega)
       omega
    case measure=>simp[intOf];omega
   ·rw[if_neg hj0] at hF HTK
    have b0:decide ((0:Int)<(j:Int))=true:=by simp;omega
    have b0':decide (0<j)=true:=by simp;omega
    have hbd:(tj++sp++u).length≤900000:=by simp only[List.length_append];omega
    have hs1:tj.length+sep.size≤900000:=by rw[List.length_append,List.length_append] at hbd;omega
    have HSB:Hid (Lib.strCells sep=byteCells sp):=Lib.hid (by rw[z9e,HSP.out])
    go_wp2_with (first
     | (at_builtin;refine Lib.wpList_append_own_string _ rfl (.tmp 18) (.tmp 19) 99 9 rfl B 5 j0 Tryd.underlying99 Tryd.underlying9 hj hy0 hy1 hy2 _ _ _ rfl (HT.out.alloc _).row _ rfl (by unfold maxLen;omega) (by omega) (HT.out.alloc _).size ?_;intro v2 w3 hown' hgrow _;have hown2:=hown';rw[HSB.out,←hspl] at hown2;have H3:=Lib.hid ((HT.out.alloc _).bytes sp hown2 hgrow);have HK3:=Lib.hid ((KeptT.alloc _ _).trans (KeptT.grown (HT.out.alloc _).row hgrow));have HK13:Hid (2≤tj.length+sep.size→Keeps1 wr _ w3 v2):=Lib.hid (fun hl=>(Keeps1.below _ (z0b wr _)).trans (Keeps1.grown hown' hl hgrow));obtain⟨e0,e1,e2,e3,e4,e5,e6,e7,e8⟩:=box9 ((KeptT.grown (HT.out.alloc _).row hgrow));clear hown' hown2 hgrow)
     | (go_at_call 37;((with_reducible refine(HKC.out _ _ _ H3.out hbd).mono ?_));rintro e w5 ⟨v5,t5,rfl,hc5,hrow5,hk5,hk15⟩))
    go_roundw
    case rel=>
     refine⟨j+1,t5,by rw[←HM.out];omega,by go_num,?_,hrow5,(HKT.out.trans HK3.out).trans hk5,fun hl1=>?_⟩
     ·rw[HTK.out]
      have:=(HCU.out.step (CutT.refl (tj++sp))).step hc5;simpa using this
     ·obtain⟨q1,q2⟩:=HK1.out hl1
      have q3:=q2 (by omega);rw[hspl] at q3;refine⟨(q1.trans (HK13.out q3)).trans (hk15 (by rw[List.length_append];omega)),fun _=>?_⟩;by_cases hs0:sep.size=0
      ·have:=hc5.pos (n:=2) (by omega) (by simp only[List.length_append];have:=hn1 hs0;omega)
       omega
      ·have:=hc5.pos (n:=1) (by omega) (by simp only[List.length_append];omega)
       omega
    case measure=>simp[intOf];omega
  ·have HE:Hid (ks.take j=ks):=Lib.hid (List.take_of_length_le (by have:=HM.out;omega))
   rw[HE.out] at HCU;go_wp2;go_ret;exact⟨_,tj,rfl,HCU.out,HT.out,HKT.out,fun hl1=>(HK1.out hl1).1⟩
end
section
attribute [local go_sem ↓] Go.wp_at_zero Go.wp_at_succ
theorem y7h (w:World) (o:Obj) (T:TypeId) (cs:Array Value) (j:Nat) (u:Value) (h:cs.toList[j]?=some u):((w.alloc (.cells cs T)).alloc o).cell? ((⟨w.heap.size,0,none⟩:Addr).add j)=some u:=by
 have h0:=z0l w T cs j u h;exact(World.cell?_alloc_lt _ o ((⟨w.heap.size,0,none⟩:Addr).add j) (by rw[z0j];simp)).trans h0
theorem z3v (t:Bs):(byteCells t).length=t.length:=by simp[byteCells,Lib.byteCells]
theorem x03 {w:World} {B L k:Nat} {v:Value} {t:Bs} (ho:w.ownsRow B 5 1 v L (byteCells t++byteCells [40])) (hl:w.heap[k]?=some (.cells #[.int .u8 41] 5 (0,0))):some k≠v.ownBlock:=by
 intro e
 have hlen:L=t.length+1:=by
  have:=ho.1;rw[List.length_append,z3v,z3v] at this;simp at this;omega
 rcases ho.2 with ⟨rfl,_⟩ | ⟨g,cap,cur,rfl,_,hh,hc,_,hcs,htake⟩
 ·simp[Value.ownBlock] at e
 ·simp only[Value.ownBlock,Option.some.injEq] at e
  subst e;rw[hl] at hh;injection hh with hh
  injection hh with hh _
  subst hh;simp at hcs;have ht:t=[]:=List.length_eq_zero_iff.1 (by omega);subst ht;obtain rfl:L=1:=by simpa using hlen
  simp[byteCells,Lib.byteCells] at htake
theorem y87 {w:World} {k:Nat} (hl:w.heap[k]?=some (.cells #[.int .u8 41] 5 (0,0))) (j:Nat) (u:Value) (hu:(byteCells [41])[j]?=some u):w.cell? ((⟨k,0,none⟩:Addr).add j)=some u:=by
 have hadd:(⟨k,0,none⟩:Addr).add j=⟨k,j,none⟩:=by unfold Addr.add;split <;> simp_all
 rw[hadd,cell_of_row _ _ j _ 5 (0,0) hl];simp[byteCells,Lib.byteCells] at hu ⊢;exact hu
theorem x36 {w:World} {B n g:Nat} {v:Value} {xs:List Value} (h:w.ownsRow B 5 1 v n xs) (e:some g=v.ownBlock):g<w.heap.size:=by
 obtain⟨cur,hh,_⟩:=z84 h e;exact(Array.getElem?_eq_some_iff.1 hh).1
theorem z63 {w:World} {B n:Nat} {v:Value} {xs:List Value} (h:w.ownsRow B 5 1 v n xs):∃ A0 c0,v= .slice A0 n c0:=by
 rcases z3r h with ⟨rfl,h0⟩ | ⟨g,cap,rfl,_⟩
 ·exact⟨none,0,by rw[h0]⟩
 ·exact⟨_,_,rfl⟩
theorem z4w {k:Int} {S:S4} {ks:List Re} {lo hi n:Int} (h:told (.mk k S ks lo hi n)=true):(k=6→(∃ x,ks=[x])∧bound lo hi=true)∧(k=7→∃ x,ks=[x])∧(k≠4→k≠5→k≠6→k≠7→ks=[]):=by
 simp only[told,Bool.and_eq_true] at h;obtain⟨_,_,h⟩:=h;refine⟨fun h6=>?_,fun h7=>?_,fun h4 h5 h6 h7=>?_⟩
 ·rw[if_pos h6,Bool.and_eq_true] at h
  rcases ks with _ | ⟨x,_ | ⟨y,t⟩⟩
  ·simp at h
  ·exact⟨⟨x,rfl⟩,h.2⟩
  ·simp at h
 ·rw[if_neg (by omega),if_pos h7] at h
  simp only[Bool.and_eq_true,decide_eq_true_eq] at h;exact List.length_eq_one_iff.1 h.2.2
 ·rw[if_neg h6,if_neg h7,if_neg (by omega)] at h
  simp only[Bool.and_eq_true,decide_eq_true_eq] at h;exact List.length_eq_zero_iff.1 h.2.2
theorem x2o (S:S4) (x:Re) (lo hi n:Int) (hx:AReC x):AReC (.mk 6 S [x] lo hi n):=by
 intro B w0 w v t A c lv d g g' h hk hf hlv hl
 have hx1:∃ g1 g2,form x 0 d g1=some g2:=by
  rw[form] at hf
  split at hf
  ·rw[if_neg (by omega)] at hf
   exact z39 (k:=0) hf rfl
  ·cases hf
 have hb:bound lo hi=true:=by
  rw[form] at hf
  split at hf
  ·rename_i h1;exact((z4w h1.2).1 rfl).2
  ·cases hf
 obtain⟨g1,g2,hf1⟩:=hx1;have hte:textE (.mk 6 S [x] lo hi n)=textE x++signT lo hi:=by rw[textE,if_neg (by omega),if_neg (by omega),if_neg (by omega),if_neg (by omega),if_pos rfl,joinT,tailT,List.append_nil]
 rw[hte] at hl ⊢;simp only[List.length_append] at hl;have hsl:=y2z lo hi;obtain⟨ad,A',c',rfl,hp,h9,hkr⟩:=z2t (k:=0) hk (r:= .mk 6 S [x] lo hi n) (x:=x) rfl;have hadd:ad.add (0 * 9)=ad:=by unfold Addr.add;simp
 rw[hadd] at h9;have h9w:=h9.keep (w':=w) (fun o=>h.below.cell hp) (h.below.cell hp);have hltw:ad.block<w.heap.size:=Nat.lt_of_lt_of_le hp h.size;have h9a:∀ o,At9 (w.alloc o) ad x A' c':=fun o=>h9w.keep (fun o'=>World.cell?_alloc_lt w o ⟨ad.block,o',none⟩ hltw) (World.cell?_alloc_lt w o ad hltw)
 have HA9:Hid (∀ w',Below B w0 w'→At9 w' ad x A' c'):=Lib.hid fun w' hb'=>h9.keep (fun o=>hb'.cell hp) (hb'.cell hp)
 have K:∀ w1,RowB B w0 w1 v t→Calls Tryd.prog 37 #[v,valR x A' c'] w1 (WrtC B w0 w1 v t (t++textE x)):=fun w1 h1=>hx B w0 w1 v t A' c' 0 d g1 g2 h1 hkr hf1 (by omega) (by rw[List.length_append];omega)
 have KS:Hid (∀ w,Calls Tryd.prog 53 #[.int .i64 lo,.int .i64 hi] w fun e w'=>e= .returned (.string ⟨(signT lo hi).toArray⟩)∧w=w'):=Lib.hid fun w=>(y86 lo hi hb w).mono fun e w' ⟨a,b⟩=>⟨a,b.symm⟩
 obtain⟨sg,hsg⟩:∃ sg:ByteArray,sg=⟨(signT lo hi).toArray⟩:=⟨_,rfl⟩;have hsgd:sg.data.toList=signT lo hi:=by rw[hsg]
 have hsz:sg.size=(signT lo hi).length:=by rw[←hsgd,z0o]
 rw[←hsg] at KS;have HSB:Hid (Lib.strCells sg=byteCells (signT lo hi)):=Lib.hid (by rw[z9e,hsgd]);obtain⟨sT,hsT⟩:∃ sT,sT=signT lo hi:=⟨_,rfl⟩;obtain⟨xT,hxT⟩:∃ xT,xT=textE x:=⟨_,rfl⟩;rw[←hsT] at hl hsl hsz HSB ⊢;rw[←hxT] at hl K ⊢;have H:=Lib.hid h;obtain⟨j0,hj,hy0,hy1,hy2⟩:=info_parts info5;obtain⟨k',S',ks',lo',hi',n'⟩:=x;simp only[valR,List.length_singleton] at K ⊢;have HKC:=Lib.hid K;obtain⟨s0,hs0⟩:∃ s0:Int,s0=S.1.toNat:=⟨_,rfl⟩;obtain⟨s1,hs1⟩:∃ s1:Int,s1=S.2.1.toNat:=⟨_,rfl⟩;obtain⟨s2,hs2⟩:∃ s2:Int,s2=S.2.2.1.toNat:=⟨_,rfl⟩;obtain⟨s3,hs3⟩:∃ s3:Int,s3=S.2.2.2.toNat:=⟨_,rfl⟩;rw[←hs0,←hs1,←hs2,←hs3];obtain⟨A0,c0,rfl⟩:=z63 h.row;have H9A:=Lib.hid h9a;by_cases h200:t.length≤200
 ·have b200:decide ((200:Int)<(t.length:Int))=false:=by simp;omega
  have b200':decide (200<t.length)=false:=by simp;omega
  obtain⟨e0,e1,e2,e3,e4,e5,e6,e7,e8⟩:=h9a (.cells #[.int .i64 6,.int .u64 s0,.int .u64 s1,.int .u64 s2,.int .u64 s3,.slice (some ad) 1 c,.int .i64 lo,.int .i64 hi,.int .i64 n] 27);clear h hk hf hb hte hadd h9 hkr h9w h9a hf1 K hsg hsgd hsT hxT hs0 hs1 hs2 hs3 hx;go_enter Tryd.func37,Tryd.ntmps37;go_wp2
  go_region_held3 (fun w'=>(w'.cell? ⟨w.heap.size,5,none⟩=some (.slice (some ad) 1 c)∧w'.cell? ⟨w.heap.size,6,none⟩=some (.int .i64 lo)∧w'.cell? ⟨w.heap.size,7,none⟩=some (.int .i64 hi))∧w'.cell? ad=some (.int .i64 k')∧w'.cell? ⟨ad.block,ad.off+1,none⟩=some (.int .u64 S'.1.toNat)∧w'.cell? ⟨ad.block,ad.off+2,none⟩=some (.int .u64 S'.2.1.toNat)∧
    w'.cell? ⟨ad.block,ad.off+3,none⟩=some (.int .u64 S'.2.2.1.toNat)∧w'.cell? ⟨ad.block,ad.off+4,none⟩=some (.int .u64 S'.2.2.2.toNat)∧w'.cell? ⟨ad.block,ad.off+5,none⟩=some (.slice A' ks'.length c')∧w'.cell? ⟨ad.block,ad.off+6,none⟩=some (.int .i64 lo')∧
    w'.cell? ⟨ad.block,ad.off+7,none⟩=some (.int .i64 hi')∧w'.cell? ⟨ad.block,ad.off+8,none⟩=some (.int .i64 n'))
   (first | go_keep | exact⟨⟨q5,q6,q7⟩,u0,u1,u2,u3,u4,u5,u6,u7,u8⟩)
   (first
    | (go_at_call 37;((with_reducible refine(HKC.out _ (H.out.alloc _).drew).mono ?_));rintro e w5 ⟨v5,t5,rfl,hc5,hrow5,hk5,hk15⟩;obtain⟨_,_,_,_,_,q5,q6,q7,_⟩:=box9 ((KeptT.drew _).trans hk5);obtain⟨u0,u1,u2,u3,u4,u5,u6,u7,u8⟩:=HA9.out _ hrow5.below;have H5:=Lib.hid hrow5;have HC5:=Lib.hid hc5;have HK5:=Lib.hid hk5;have HK15:=Lib.hid hk15;have hl5:t5.length≤900000:=(by have:=HC5.out.2.2;rw[List.length_append] at this;omega);clear hrow5 hc5 hk5 hk15)
    | (go_at_call 53;((with_reducible refine(KS.out _).mono ?_));rintro e w6 ⟨rfl,h6⟩;have H6:Hid (RowB B w0 w6 v5 t5):=Lib.hid (h6 ▸ H5.out);have HK6:Hid (KeptT _ w6):=Lib.hid (h6 ▸ HK5.out);have HK16:Hid (1≤t.length→Keeps1 _ _ w6 v5):=Lib.hid (h6 ▸ HK15.out);obtain⟨_,_,_,_,_,q5,q6,q7,_⟩:=box9 ((KeptT.drew _).trans HK6.out);obtain⟨u0,u1,u2,u3,u4,u5,u6,u7,u8⟩:=HA9.out _ H6.out.below;clear h6)
    | ((refine z5z _ (by rfl) (.tmp 46) (.tmp 51) 99 9 (by rfl) B 5 j0 Tryd.underlying99 Tryd.underlying9 hj hy0 hy1 hy2 _ _ _ (by rfl) H6.out.row sg (by rfl) (by rw[hsz];unfold maxLen;omega) (by rw[hsz];omega) H6.out.size ?_;intro v7 w7 hown7 hgrow7 _;obtain⟨_,_,_,_,_,q5,q6,q7,_⟩:=box9 (((KeptT.drew _).trans HK6.out).trans (KeptT.grown H6.out.row hgrow7));have hown8:=hown7;rw[HSB.out,hsz] at hown8;have H7:=Lib.hid (H6.out.bytes sT hown8 hgrow7);obtain⟨u0,u1,u2,u3,u4,u5,u6,u7,u8⟩:=HA9.out _ H7.out.below;have HG7:=Lib.hid (KeptT.grown H6.out.row hgrow7);have HK17:Hid (1≤t5.length→Keeps1 _ v5 w7 v7):=Lib.hid (fun h1=>Keeps1.grown hown7 (by rw[hsz];omega) hgrow7);clear hown7 hown8 hgrow7)))
  go_wp2;go_ret;refine⟨_,t5++sT,rfl,?_,H7.out,(KeptT.alloc w _).trans ((KeptT.drew _).trans (HK6.out.trans HG7.out)),fun h1=>((Keeps1.below _ (z0b w _)).trans (HK16.out h1)).trans (HK17.out (HC5.out.pos (by omega) (by rw[List.length_append];omega)))⟩;have:=HC5.out.step (CutT.refl (t5++sT));rw[List.append_assoc] at this;exact this
 ·have b200:decide ((200:Int)<(t.length:Int))=true:=by simp;omega
  have b200':decide (200<t.length)=true:=by simp;omega
  clear h hk hf hb hte hadd h9 hkr h9w h9a hf1 K hsg hsgd hsT hxT hs0 hs1 hs2 hs3 hx;go_enter Tryd.func37,Tryd.ntmps37;go_wp2;go_ret;exact⟨_,t,rfl,(CutT.refl t).past _ (by omega),H.out.alloc _,KeptT.alloc w _,fun _=>Keeps1.below _ (z0b w _)⟩
end
end Go.Proofs.YtejgbpbljdhndaaDoor
