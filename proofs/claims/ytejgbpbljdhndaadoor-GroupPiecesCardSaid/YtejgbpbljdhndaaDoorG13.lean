import Derived.Test.YtejgbpbljdhndaaDoorG6
import Derived.Test.YtejgbpbljdhndaaDoorRPrint
import Derived.Test.YtejgbpbljdhndaaDoorParts
import Derived.Deep.WholeRow
import Derived.Test.YtejgbpbljdhndaaDoorG3
import Derived.Deep.RegionHeld3
import Derived.Deep.Cut
import Derived.Deep.MidRow
namespace Go.Proofs.YtejgbpbljdhndaaDoor
open Go Go.RowKit
set_option maxRecDepth 100000
set_option maxHeartbeats 8000000
def okR (R:Re):Bool:=(printE R).2==0
theorem z8i (R:Re):okR R=true ↔ RightP R:=by unfold okR;rw[beq_iff_eq,y1o]
theorem z9c {R:Re} (h:okR R=true):Fine R:=by
 obtain⟨⟨g,h1⟩,_⟩:=(z8i R).mp h;exact z36 R (by decide) h1
theorem x2a (R:Re) (A:Option Addr) (c:Nat) (w:World) (hk:Kids (Lt w.heap.size) w A R) (hs:sizeE R≤600):
  Calls Tryd.prog 19 #[valR R A c] w fun e w'=>e= .returned (.bool (okR R))∧Below w.heap.size w w':=by
 have K18:Hid (∀ o,Calls Tryd.prog 32 #[valR R A c] (w.alloc o) (PostW (w.alloc o) (printE R))):=Lib.hid fun o=>y35 R A c _ (hk.next (z0b w o)) hs
 obtain⟨P,hP⟩:∃ P,P=printE R:=⟨_,rfl⟩;have hv:okR R=(P.2==0):=by unfold okR;rw[hP]
 rw[hv];rw[←hP] at K18;obtain⟨p1,p2⟩:=P;have HB:=Lib.hid (z0b w);obtain⟨k,S,ks,lo,hi,n⟩:=R;simp only[valR] at K18 ⊢;clear hP hv hk;go_enter Tryd.func19,Tryd.ntmps19;go_wp2_with (go_at_call 32;((with_reducible refine(K18.out _).mono ?_));rintro _ w1 ⟨rfl,hb1⟩;have HB1:=Lib.hid ((HB.out _).trans (hb1.mono (HB.out _).size));clear hb1);go_ret;exact⟨rfl,HB1.out⟩
theorem x4h (s:ByteArray) (b e:Bool) (i:Nat) (hi:i≤s.size) (hs:s.size≤100000) (R:Re) (A:Option Addr) (c:Nat) (w:World) (hk:Kids (Lt w.heap.size) w A R) (hz:sizeE R≤600):
  Calls Tryd.prog 8 #[valR R A c,.string s,.int .i64 (i:Nat),.bool b,.bool e] w fun e' w'=>∃ (g:Nat) (F:Nat→Bool),e'= .returned (.slice (some ⟨g,0,none⟩) (s.size+1:Nat) (s.size+1:Nat))∧
   Hid (w.heap.size≤g∧BRow w' g (s.size+1) F∧(∀ j,PB (s.size+1) F j ↔ RightP R∧Way s.data.toList b e R i j)∧Below w.heap.size w w'):=by
 obtain⟨N,hN⟩:∃ N:Nat,N=s.size+1:=⟨_,rfl⟩;obtain⟨ok,hok⟩:∃ v,v=okR R:=⟨_,rfl⟩;have hR15:∀ w',Below w.heap.size w w'→Calls Tryd.prog 19 #[valR R A c] w' fun e w2=>e= .returned (.bool ok)∧Below w'.heap.size w' w2:=fun w' hb=>by rw[hok];exact x2a R A c w' (hk.next hb) hz
 have hR10:ok=true→∀ w' F g,Below w.heap.size w w'→BRow w' g N F→Calls Tryd.prog 10 #[valR R A c,.string s,.slice (some ⟨g,0,none⟩) N N,.bool b,.bool e] w' (OvPost N (Way s.data.toList b e R) w' F):=fun h w' F g hb hg=>by
  have h1:=y2e s b e hs R (z9c (by rw[←hok];exact h)) (by omega) A c w' g F (hk.next hb) (by rw[←hN];exact hg);rw[←hN] at h1;exact h1
 have hiff:∀ j,RightP R∧Way s.data.toList b e R i j ↔ ok=true∧stepP (Way s.data.toList b e R) (PB N fun k=>if k=i then true else false) j:=fun j=>by
  rw[hok,z8i];refine and_congr_right fun _=>⟨fun h=>⟨i,⟨by omega,by simp⟩,h⟩,fun ⟨q,⟨_,h1⟩,h2⟩=>?_⟩
  by_cases hq:q=i
  ·subst hq;exact h2
  ·simp[hq] at h1
 rw[←hN];have HIFF:=Lib.hid hiff;have e1:(s.size:Int)+1=(N:Int):=by omega
 have hN9:N≤100001:=by omega
 have hiN:i<N:=by omega
 have hmk:=run_make_row' (P:=Tryd.prog) 38 4 (.bool false) 1 Tryd.underlying38 infoB rfl .i64 .i64 N (by omega) (by omega);have hbb:∀ o o',Below w.heap.size w ((w.alloc o).alloc o'):=z0e w;obtain⟨k,S,ks,lo,hi',n⟩:=R;obtain⟨m,hm⟩:∃ m,m=ks.length:=⟨_,rfl⟩;simp only[valR] at hR15 hR10 ⊢;rw[←hm] at hR15 hR10 ⊢;obtain⟨s0,hs0⟩:∃ s0:Int,s0=S.1.toNat:=⟨_,rfl⟩;obtain⟨s1,hs1⟩:∃ s1:Int,s1=S.2.1.toNat:=⟨_,rfl⟩;obtain⟨s2,hs2⟩:∃ s2:Int,s2=S.2.2.1.toNat:=⟨_,rfl⟩;obtain⟨s3,hs3⟩:∃ s3:Int,s3=S.2.2.2.toNat:=⟨_,rfl⟩;rw[←hs0,←hs1,←hs2,←hs3] at hR15 hR10 ⊢;obtain⟨W1,hW1⟩:∃ W1,W1=(w.alloc (.cells #[.int .i64 k,.int .u64 s0,.int .u64 s1,.int .u64 s2,.int .u64 s3,.slice A m c,.int .i64 lo,.int .i64 hi',.int .i64 n] 27)).alloc (.cells (madeCells #[.bool false] N) 4):=⟨_,rfl⟩
 have hr1:BRow W1 (w.heap.size+1) N (fun _=>false):=by
  have:=BRow.made (w.alloc (.cells #[.int .i64 k,.int .u64 s0,.int .u64 s1,.int .u64 s2,.int .u64 s3,.slice A m c,.int .i64 lo,.int .i64 hi',.int .i64 n] 27)) N;rw[hW1];simpa only[World.size_alloc] using this
 have hh1:W1.heap[w.heap.size]?=some (.cells #[.int .i64 k,.int .u64 s0,.int .u64 s1,.int .u64 s2,.int .u64 s3,.slice A m c,.int .i64 lo,.int .i64 hi',.int .i64 n] 27):=by
  rw[hW1,(z0b _ _).block w.heap.size (by simp),heap_alloc_new]
 have hl1:W1.heap.size=w.heap.size+2:=by rw[hW1];simp
 have hb1:Below w.heap.size w W1:=by rw[hW1];exact hbb _ _
 have HK15:Hid (Calls Tryd.prog 19 #[.agg #[.int .i64 k,.int .u64 s0,.int .u64 s1,.int .u64 s2,.int .u64 s3,.slice A m c,.int .i64 lo,.int .i64 hi',.int .i64 n]] W1 fun e' w2=>e'= .returned (.bool ok)∧Hid (Below w.heap.size w w2∧BRow w2 (w.heap.size+1) N (fun _=>false)∧∀ q u,(w2.setCell ⟨w.heap.size+1,i,none⟩ u).cell? ⟨w.heap.size,q,none⟩=(#[.int .i64 k,.int .u64 s0,.int .u64 s1,.int .u64 s2,.int .u64 s3,.slice A m c,.int .i64 lo,.int .i64 hi',.int .i64 n]:Array Value)[q]?)):=Lib.hid ((hR15 W1 hb1).mono fun e' w2 ⟨h1,h2⟩=>⟨h1,Lib.hid ⟨hb1.trans (h2.mono hb1.size),hr1.below h2 hr1.lt,fun q u=>by
  refine cell_of_row _ _ q _ 27 (0,0) ?_;rw[heap_setCell_other _ _ _ _ (by show w.heap.size≠w.heap.size+1;omega),h2.block w.heap.size (by omega)];exact hh1⟩⟩)
 have HK10:Hid (ok=true→∀ w2,Below w.heap.size w w2→BRow w2 (w.heap.size+1) N (fun _=>false)→Calls Tryd.prog 10 #[.agg #[.int .i64 k,.int .u64 s0,.int .u64 s1,.int .u64 s2,.int .u64 s3,.slice A m c,.int .i64 lo,.int .i64 hi',.int .i64 n],.string s,.slice (some ⟨w.heap.size+1,0,none⟩) N N,.bool b,.bool e] (w2.setCell ⟨w.heap.size+1,i,none⟩ (.bool true)) fun e' w'=>∃ (g:Nat) (F:Nat→Bool),e'= .returned (.slice (some ⟨g,0,none⟩) N N)∧
   Hid (w.heap.size≤g∧BRow w' g N F∧(∀ j,PB N F j ↔ RightP (Re.mk k S ks lo hi' n)∧Way s.data.toList b e (Re.mk k S ks lo hi' n) i j)∧Below w.heap.size w w')):=Lib.hid fun h w2 h1 h2=>by
  have h3:Below w.heap.size w (w2.setCell ⟨w.heap.size+1,i,none⟩ (.bool true)):=h1.setCell (by show w.heap.size≤w.heap.size+1;omega) _;refine(hR10 h _ _ _ h3 (h2.set i true)).mono fun e' w' ⟨g,F,q1,q2⟩=>⟨g,F,q1,Lib.hid ?_⟩
  obtain⟨z1,z2,z3,z4⟩:=q2.out;have hsz:=h3.size;exact⟨by omega,z2,fun j=>by rw[z3,HIFF.out j];simp[h],h3.trans (z4.mono hsz)⟩
 have HW1:=Lib.hid hW1;clear hR15 hR10 hiff hs0 hs1 hs2 hs3 hm hr1 hh1 hb1 hbb hk hz hok hl1 hN hW1
 cases ok with
 | true=>
   go_enter Tryd.func8,Tryd.ntmps8;go_wp2_with (first | (go_at_call 19;rw[←HW1.out];((with_reducible refine(HK15.out).mono ?_));rintro _ w2 ⟨rfl,HQ⟩;have x0:=HQ.out.2.1.cell hiN;have x1:=HQ.out.2.1.free i;have pp:=HQ.out.2.2;have p0:=(pp 0 (.bool true)).trans rfl;have p1:=(pp 1 (.bool true)).trans rfl;have p2:=(pp 2 (.bool true)).trans rfl;have p3:=(pp 3 (.bool true)).trans rfl;have p4:=(pp 4 (.bool true)).trans rfl;have p5:=(pp 5 (.bool true)).trans rfl;have p6:=(pp 6 (.bool true)).trans rfl;have p7:=(pp 7 (.bool true)).trans rfl;have p8:=(pp 8 (.bool true)).trans rfl;clear pp) | (go_at_call 10;((with_reducible refine(HK10.out (by trivial) _ HQ.out.1 HQ.out.2.1).mono ?_));rintro _ w3 ⟨g',F',rfl,HP⟩) | fail);go_ret;exact⟨g',F',rfl,HP⟩
 | false=>
   go_enter Tryd.func8,Tryd.ntmps8;go_wp2_with (go_at_call 19;rw[←HW1.out];((with_reducible refine(HK15.out).mono ?_));rintro _ w2 ⟨rfl,HQ⟩);go_ret;obtain⟨q1,q2,q3⟩:=HQ.out;exact⟨_,_,rfl,Lib.hid ⟨by omega,q2,fun j=>by rw[HIFF.out j];simp[PB],q1⟩⟩
structure FindOk (s:Bs) (r:Re) (i k:Nat) (M:Nat→Int × Int) (ok:Bool):Prop where
 iff:ok=true ↔ RightP r∧i≤k∧Way s true true r i k
 no:ok=false→∀ n,M n=(0,0)
 all:ok=true→M 0=((i:Int),(k:Int))
 grp:ok=true→∀ n,0<n→n<10→M n=(-1, -1)∨∃ a b:Nat,M n=((a:Int),(b:Int))∧i≤a∧a≤b∧b≤k∧Way s true true (gathT r (fun _=>re0) n) a b
def cutsA (M:Nat→Int × Int):Array Value:=#[.int .i64 (M 0).1,.int .i64 (M 0).2,.int .i64 (M 1).1,.int .i64 (M 1).2,.int .i64 (M 2).1,.int .i64 (M 2).2,.int .i64 (M 3).1,.int .i64 (M 3).2,.int .i64 (M 4).1,.int .i64 (M 4).2,.int .i64 (M 5).1,.int .i64 (M 5).2,.int .i64 (M 6).1,.int .i64 (M 6).2,.int .i64 (M 7).1,.int .i64 (M 7).2,.int .i64 (M 8).1,.int .i64 (M 8).2,.int .i64 (M 9).1,.int .i64 (M 9).2]
def FindC:Prop:=∀ (r:Re) (A:Option Addr) (c:Nat) (s:ByteArray) (i k:Nat) (w:World),Kids (Lt w.heap.size) w A r→sizeE r≤60→s.size≤20→i≤s.size→k≤s.size→
 Calls Tryd.prog 7 #[valR r A c,.string s,.int .i64 (i:Nat),.int .i64 (k:Nat)] w fun e w'=>∃ (M:Nat→Int × Int) (ok:Bool),e= .returned (.tuple #[.agg (cutsA M),.bool ok])∧Hid (FindOk s.data.toList r i k M ok∧Below w.heap.size w w')
theorem z19 (M:Nat→Int × Int) {n:Nat} (hn:n<10):(cutsA M)[n * 2]?=some (.int .i64 (M n).1)∧(cutsA M)[n * 2+1]?=some (.int .i64 (M n).2):=by
 have:n=0∨n=1∨n=2∨n=3∨n=4∨n=5∨n=6∨n=7∨n=8∨n=9:=by omega
 rcases this with rfl | rfl | rfl | rfl | rfl | rfl | rfl | rfl | rfl | rfl <;> exact⟨rfl,rfl⟩
theorem y0t (M:Nat→Int × Int):(cutsA M).size=20:=rfl
theorem z5e (M:Nat→Int × Int):(cutsA M).all (·.oneCell')=true:=by unfold cutsA;simp[Value.oneCell']
theorem y60 {M:Nat→Int × Int} (h:∀ n,M n=(0,0)):cutsA M=zM:=by unfold cutsA zM;simp only[h]
theorem y2t:Fine re0:=by
 unfold re0;rw[Fine];exact⟨by decide,by decide,fun r h=>by cases h⟩
theorem z94 (r:Re):∀ T,Fine r→sizeE r≤1000→(∀ n,Fine (T n)∧sizeE (T n)≤1000)→∀ n,Fine (gathT r T n)∧sizeE (gathT r T n)≤1000:=by
 induction r using Re.ind with
 | h k S ks lo hi m ih=>
   intro T hF hz hT;rw[sizeE] at hz
   have hL:∀ (l:List Re),(∀ x∈l,x∈ks)→∀ T,(∀ n,Fine (T n)∧sizeE (T n)≤1000)→∀ n,Fine (gathL l T n)∧sizeE (gathL l T n)≤1000:=by
    intro l
    induction l with
    | nil=>intro _ T hT n;rw[gathL];exact hT n
    | cons x l ihl=>
      intro hx T hT n;rw[gathL];have hm:=hx x (List.mem_cons_self ..);have:=z31 hm;exact ihl (fun y hy=>hx y (List.mem_cons_of_mem _ hy)) _ (ih x hm T (hF.kids hm) (by omega) hT) n
   rw[gathT];refine hL ks (fun _ h=>h) _ ?_;intro n
   cases ks with
   | nil=>rw[gathS];exact hT n
   | cons x l=>
     rw[gathS];have:=z31 (l:=x::l) (List.mem_cons_self ..)
     split
     ·unfold updT
      split
      ·exact⟨hF.kids (List.mem_cons_self ..),by omega⟩
      ·exact hT n
     ·exact hT n
section
set_option linter.unusedSimpArgs false
def AwC:Prop:=∀ w,Calls Tryd.prog 5 #[] w fun e w'=>e= .returned (.bool true)∧Below w.heap.size w w'
structure BxL (w W:World) (X:Array Value) (a0 a1:Nat):Prop where
 b0:W.heap[w.heap.size]?=some (.cells X 27)
 b1:W.heap[w.heap.size+1]?=some (.cells #[.int .u8 (a0:Nat),.int .u8 (a1:Nat)] 28)
 low:Below w.heap.size w W
theorem BxL.r {w W:World} {X:Array Value} {a0 a1:Nat} (h:BxL w W X a0 a1) (q:Nat):W.cell? ⟨w.heap.size,q,none⟩=X[q]?:=cell_of_row _ _ q _ 27 (0,0) h.b0
theorem BxL.a {w W:World} {X:Array Value} {a0 a1:Nat} (h:BxL w W X a0 a1) (q:Nat):W.cell? ⟨w.heap.size+1,q,none⟩=(#[.int .u8 (a0:Nat),.int .u8 (a1:Nat)]:Array Value)[q]?:=cell_of_row _ _ q _ 28 (0,0) h.b1
theorem BxL.sz {w W:World} {X:Array Value} {a0 a1:Nat} (h:BxL w W X a0 a1):w.heap.size+2≤W.heap.size:=by have:=(Array.getElem?_eq_some_iff.mp h.b1).1;omega
theorem BxL.next {w W W':World} {X:Array Value} {a0 a1:Nat} (h:BxL w W X a0 a1) (hb:Below W.heap.size W W'):BxL w W' X a0 a1:=by
 have:=h.sz;exact⟨by rw[hb.block _ (by omega)];exact h.b0,by rw[hb.block _ (by omega)];exact h.b1,h.low.trans (hb.mono h.low.size)⟩
theorem BxL.first(w:World) (X:Array Value) (a0 a1:Nat):BxL w ((w.alloc (.cells X 27)).alloc (.cells #[.int .u8 (a0:Nat),.int .u8 (a1:Nat)] 28)) X a0 a1:=by
 have e1:=heap_alloc_new (w.alloc (.cells X 27)) (.cells #[.int .u8 (a0:Nat),.int .u8 (a1:Nat)] 28);rw[World.size_alloc] at e1;exact⟨by rw[(z0b _ _).block w.heap.size (by simp),heap_alloc_new],e1,(z0b w _).alloc (by simp) _⟩
theorem z9z:(Tryd.prog.info? 35).map (·.size)=some 20:=by kernel_rfl
theorem z6e (M:Nat→Int × Int) (W:World):(storeCells ⟨W.heap.size,0,none⟩ (cutsA M).toList 0).run Tryd.prog (W.alloc (.cells #[.int .i64 0,.int .i64 0,.int .i64 0,.int .i64 0,.int .i64 0,.int .i64 0,.int .i64 0,.int .i64 0,.int .i64 0,.int .i64 0,.int .i64 0,.int .i64 0,.int .i64 0,.int .i64 0,.int .i64 0,.int .i64 0,.int .i64 0,.int .i64 0,.int .i64 0,.int .i64 0] 35))= .ok () (W.alloc (.cells (cutsA M) 35)):=run_storeCells_new W 35 #[.int .i64 0,.int .i64 0,.int .i64 0,.int .i64 0,.int .i64 0,.int .i64 0,.int .i64 0,.int .i64 0,.int .i64 0,.int .i64 0,.int .i64 0,.int .i64 0,.int .i64 0,.int .i64 0,.int .i64 0,.int .i64 0,.int .i64 0,.int .i64 0,.int .i64 0,.int .i64 0] (cutsA M) z9z rfl (z5e M)
theorem z5r (M:Nat→Int × Int) (W:World):(Instr.storeAt 35 (.pointer (some ⟨W.heap.size,0,none⟩)) (.agg (cutsA M))).run Tryd.prog (W.alloc (.cells #[.int .i64 0,.int .i64 0,.int .i64 0,.int .i64 0,.int .i64 0,.int .i64 0,.int .i64 0,.int .i64 0,.int .i64 0,.int .i64 0,.int .i64 0,.int .i64 0,.int .i64 0,.int .i64 0,.int .i64 0,.int .i64 0,.int .i64 0,.int .i64 0,.int .i64 0,.int .i64 0] 35))= .ok () (W.alloc (.cells (cutsA M) 35)):=run_storeAt_new W 35 #[.int .i64 0,.int .i64 0,.int .i64 0,.int .i64 0,.int .i64 0,.int .i64 0,.int .i64 0,.int .i64 0,.int .i64 0,.int .i64 0,.int .i64 0,.int .i64 0,.int .i64 0,.int .i64 0,.int .i64 0,.int .i64 0,.int .i64 0,.int .i64 0,.int .i64 0,.int .i64 0] (cutsA M) z9z rfl (z5e M)
theorem z71 {W:World} {MB:Nat} {M:Nat→Int × Int} (h:W.heap[MB]?=some (.cells (cutsA M) 35)) (hz:∀ n,M n=(0,0)):W.rangeAt MB 0 zM.toList:=fun q v hq=>by
 rw[y60 hz] at h;rw[Nat.zero_add];exact(cell_of_row W MB q _ 35 (0,0) h).trans (by rw[←Array.getElem?_toList];exact hq)
theorem x3o {s:Bs} {rr:Re} {i j:Nat} {M:Nat→Int × Int} {ok:Bool} (h:FindOk s rr i j M ok) (hij:¬ i≤j):ok=false:=by
 cases ok with
 | false=>rfl
 | true=>exact absurd (h.iff.mp rfl).2.1 hij
theorem y1j (W:World):(binOp .eql 35 (.agg #[.int .i64 0,.int .i64 0,.int .i64 0,.int .i64 0,.int .i64 0,.int .i64 0,.int .i64 0,.int .i64 0,.int .i64 0,.int .i64 0,.int .i64 0,.int .i64 0,.int .i64 0,.int .i64 0,.int .i64 0,.int .i64 0,.int .i64 0,.int .i64 0,.int .i64 0,.int .i64 0]) (.agg #[.int .i64 0,.int .i64 0,.int .i64 0,.int .i64 0,.int .i64 0,.int .i64 0,.int .i64 0,.int .i64 0,.int .i64 0,.int .i64 0,.int .i64 0,.int .i64 0,.int .i64 0,.int .i64 0,.int .i64 0,.int .i64 0,.int .i64 0,.int .i64 0,.int .i64 0,.int .i64 0])).run Tryd.prog W= .ok (.bool true) W:=by
 have:=y3i W;unfold zM at this;exact this
theorem x4a {s:Bs} {rr:Re} {i j N:Nat} {F:Nat→Bool} {M:Nat→Int × Int} {ok:Bool} (h:FindOk s rr i j M ok) (hij:i≤j) (hj:j<N) (hp:∀ q,PB N F q ↔ RightP rr∧Way s true true rr i q):F j=ok:=by
 have h1:F j=true ↔ ok=true:=by
  rw[h.iff,←and_assoc,and_right_comm]
  constructor
  ·intro hf;exact⟨(hp j).mp ⟨hj,hf⟩,hij⟩
  ·rintro⟨h1,_⟩;exact((hp j).mpr h1).2
 cases hF:F j <;> cases ok <;> simp_all
theorem y36 (HA:AwC) (HF:FindC) (r:Re) (A:Option Addr) (c:Nat) (s:ByteArray) (a0 a1:Nat) (w:World) (hk:Kids (Lt w.heap.size) w A r) (h0:a0<256) (h1:a1<256):
  Calls Tryd.prog 3 #[valR r A c,.string s,.agg #[.int .u8 (a0:Nat),.int .u8 (a1:Nat)]] w fun e w'=>e= .returned (.bool true)∧Below w.heap.size w w':=by
 obtain⟨sm,hsm⟩:∃ v,v=decide (sizeE r≤60):=⟨_,rfl⟩;have hS:∀ W,Below w.heap.size w W→Calls Tryd.prog 6 #[valR r A c,.int .i64 60] W fun e w'=>e= .returned (.bool sm)∧Below W.heap.size W w':=fun W hb=>by rw[hsm];exact y5y r A c 60 W (hk.next hb) (by decide)
 obtain⟨k,S,ks,lo,hi,n⟩:=r;obtain⟨rr,hrr⟩:∃ r,r=Re.mk k S ks lo hi n:=⟨_,rfl⟩;rw[←hrr] at hk hsm
 have hFi:sizeE rr≤60→s.size≤20→∀ (i j:Nat) W,Below w.heap.size w W→i≤s.size→j≤s.size→Calls Tryd.prog 7 #[valR (.mk k S ks lo hi n) A c,.string s,.int .i64 (i:Nat),.int .i64 (j:Nat)] W fun e w'=>∃ (M:Nat→Int × Int) (ok:Bool),e= .returned (.tuple #[.agg (cutsA M),.bool ok])∧Hid (FindOk s.data.toList rr i j M ok∧Below W.heap.size W w'):=fun z1 z2 i j W hb hi hj=>by
  rw[←hrr];exact HF rr A c s i j W (hk.next hb) z1 z2 hi hj
 have hAt:sizeE rr≤60→s.size≤20→∀ (i:Nat) W,Below w.heap.size w W→i≤s.size→Calls Tryd.prog 8 #[valR (.mk k S ks lo hi n) A c,.string s,.int .i64 (i:Nat),.bool true,.bool true] W fun e w'=>∃ (g:Nat) (F:Nat→Bool),e= .returned (.slice (some ⟨g,0,none⟩) (s.size+1:Nat) (s.size+1:Nat))∧Hid (W.heap.size≤g∧BRow w' g (s.size+1) F∧(∀ j,PB (s.size+1) F j ↔ RightP rr∧Way s.data.toList true true rr i j)∧Below W.heap.size W w'):=fun z1 z2 i W hb hi=>by
  rw[←hrr];exact x4h s true true i hi (by omega) rr A c W (hk.next hb) (by omega)
 have hKi:sizeE rr≤60→RightP rr→∀ W,Below w.heap.size w W→Calls Tryd.prog 9 #[valR (.mk k S ks lo hi n) A c] W fun e w'=>∃ G:Nat,e= .returned (.slice (some ⟨G,0,none⟩) 10 10)∧Hid (W.heap.size≤G∧KRow W.heap.size w' G (gathT rr fun _=>re0)∧Below W.heap.size W w'):=fun z1 z2 W hb=>by
  rw[←hrr];exact y7r rr (z9c ((z8i rr).mpr z2)) (by omega) A c W (hk.next hb)
 obtain⟨m,hm⟩:∃ m,m=ks.length:=⟨_,rfl⟩;simp only[valR] at hS hFi hAt hKi ⊢;rw[←hm] at hS hFi hAt hKi ⊢;obtain⟨s0,hs0⟩:∃ s0:Int,s0=S.1.toNat:=⟨_,rfl⟩;obtain⟨s1,hs1⟩:∃ s1:Int,s1=S.2.1.toNat:=⟨_,rfl⟩;obtain⟨s2,hs2⟩:∃ s2:Int,s2=S.2.2.1.toNat:=⟨_,rfl⟩;obtain⟨s3,hs3⟩:∃ s3:Int,s3=S.2.2.2.toNat:=⟨_,rfl⟩;rw[←hs0,←hs1,←hs2,←hs3] at hS hFi hAt hKi ⊢;clear hs0 hs1 hs2 hs3 hm hrr hk;have K5:Hid (∀ W,BxL w W #[.int .i64 k,.int .u64 s0,.int .u64 s1,.int .u64 s2,.int .u64 s3,.slice A m c,.int .i64 lo,.int .i64 hi,.int .i64 n] a0 a1→Calls Tryd.prog 5 #[] W fun e w'=>e= .returned (.bool true)∧Hid (BxL w w' #[.int .i64 k,.int .u64 s0,.int .u64 s1,.int .u64 s2,.int .u64 s3,.slice A m c,.int .i64 lo,.int .i64 hi,.int .i64 n] a0 a1)):=Lib.hid fun W h=>(HA W).mono fun e w' ⟨q1,q2⟩=>⟨q1,Lib.hid (h.next q2)⟩
 have K6:Hid (∀ W,BxL w W #[.int .i64 k,.int .u64 s0,.int .u64 s1,.int .u64 s2,.int .u64 s3,.slice A m c,.int .i64 lo,.int .i64 hi,.int .i64 n] a0 a1→Calls Tryd.prog 6 #[.agg #[.int .i64 k,.int .u64 s0,.int .u64 s1,.int .u64 s2,.int .u64 s3,.slice A m c,.int .i64 lo,.int .i64 hi,.int .i64 n],.int .i64 60] W fun e w'=>e= .returned (.bool sm)∧Hid (BxL w w' #[.int .i64 k,.int .u64 s0,.int .u64 s1,.int .u64 s2,.int .u64 s3,.slice A m c,.int .i64 lo,.int .i64 hi,.int .i64 n] a0 a1)):=Lib.hid fun W h=>(hS W h.low).mono fun e w' ⟨q1,q2⟩=>⟨q1,Lib.hid (h.next q2)⟩
 have HB0:=Lib.hid (BxL.first w #[.int .i64 k,.int .u64 s0,.int .u64 s1,.int .u64 s2,.int .u64 s3,.slice A m c,.int .i64 lo,.int .i64 hi,.int .i64 n] a0 a1);clear hS HA HF
 cases sm with
 | false=>
   clear hFi hAt hKi hsm;go_enter Tryd.func3,Tryd.ntmps3;go_wp2_with (first | (go_at_call 5;((with_reducible refine(K5.out _ HB0.out).mono ?_));rintro _ w1 ⟨rfl,HB1⟩;have p0:w1.cell? ⟨w.heap.size,0,none⟩=some (.int .i64 k):=(HB1.out.r 0).trans rfl;have p1:w1.cell? ⟨w.heap.size,1,none⟩=some (.int .u64 s0):=(HB1.out.r 1).trans rfl;have p2:w1.cell? ⟨w.heap.size,2,none⟩=some (.int .u64 s1):=(HB1.out.r 2).trans rfl;have p3:w1.cell? ⟨w.heap.size,3,none⟩=some (.int .u64 s2):=(HB1.out.r 3).trans rfl;have p4:w1.cell? ⟨w.heap.size,4,none⟩=some (.int .u64 s3):=(HB1.out.r 4).trans rfl;have p5:w1.cell? ⟨w.heap.size,5,none⟩=some (.slice A m c):=(HB1.out.r 5).trans rfl;have p6:w1.cell? ⟨w.heap.size,6,none⟩=some (.int .i64 lo):=(HB1.out.r 6).trans rfl;have p7:w1.cell? ⟨w.heap.size,7,none⟩=some (.int .i64 hi):=(HB1.out.r 7).trans rfl;have p8:w1.cell? ⟨w.heap.size,8,none⟩=some (.int .i64 n):=(HB1.out.r 8).trans rfl;have q0:w1.cell? ⟨w.heap.size+1,0,none⟩=some (.int .u8 (a0:Nat)):=(HB1.out.a 0).trans rfl;have q1:w1.cell? ⟨w.heap.size+1,1,none⟩=some (.int .u8 (a1:Nat)):=(HB1.out.a 1).trans rfl) | (go_at_call 6;((with_reducible refine(K6.out _ HB1.out).mono ?_));rintro _ w2 ⟨rfl,HB2⟩) | fail);go_ret;exact⟨rfl,HB2.out.low⟩
 | true=>
   have hz:sizeE rr≤60:=of_decide_eq_true hsm.symm;clear hsm;by_cases hln:s.size≤20
   ·have t1:decide ((20:Int)<(s.size:Int))=false:=by simp;omega
    obtain⟨N,hN⟩:∃ N:Nat,N=s.size+1:=⟨_,rfl⟩;obtain⟨i,hii⟩:∃ i,i=a0 % (s.size+1):=⟨_,rfl⟩;obtain⟨j,hjj⟩:∃ j,j=a1 % (s.size+1):=⟨_,rfl⟩;have hil:i≤s.size:=by have:=Nat.mod_lt a0 (show 0<s.size+1 by omega);rw[←hii] at this;omega
    have hjl:j≤s.size:=by have:=Nat.mod_lt a1 (show 0<s.size+1 by omega);rw[←hjj] at this;omega
    have e5:Int.tmod (a0:Int) ((s.size:Int)+1)=(i:Int):=by rw[hii,Int.tmod_eq_emod_of_nonneg (by omega)];simp
    have e6:Int.tmod (a1:Int) ((s.size:Int)+1)=(j:Int):=by rw[hjj,Int.tmod_eq_emod_of_nonneg (by omega)];simp
    have K7:Hid (∀ W,BxL w W #[.int .i64 k,.int .u64 s0,.int .u64 s1,.int .u64 s2,.int .u64 s3,.slice A m c,.int .i64 lo,.int .i64 hi,.int .i64 n] a0 a1→Calls Tryd.prog 7 #[.agg #[.int .i64 k,.int .u64 s0,.int .u64 s1,.int .u64 s2,.int .u64 s3,.slice A m c,.int .i64 lo,.int .i64 hi,.int .i64 n],.string s,.int .i64 (i:Nat),.int .i64 (j:Nat)] W fun e w'=>∃ (M:Nat→Int × Int) (ok:Bool),e= .returned (.tuple #[.agg (cutsA M),.bool ok])∧Hid (FindOk s.data.toList rr i j M ok∧BxL w w' #[.int .i64 k,.int .u64 s0,.int .u64 s1,.int .u64 s2,.int .u64 s3,.slice A m c,.int .i64 lo,.int .i64 hi,.int .i64 n] a0 a1)):=Lib.hid fun W h=>
     (hFi hz hln i j W h.low hil hjl).mono fun e w' ⟨M,ok,q1,q2⟩=>⟨M,ok,q1,Lib.hid ⟨q2.out.1,h.next q2.out.2⟩⟩
    have K8:Hid (∀ W,BxL w W #[.int .i64 k,.int .u64 s0,.int .u64 s1,.int .u64 s2,.int .u64 s3,.slice A m c,.int .i64 lo,.int .i64 hi,.int .i64 n] a0 a1→Calls Tryd.prog 8 #[.agg #[.int .i64 k,.int .u64 s0,.int .u64 s1,.int .u64 s2,.int .u64 s3,.slice A m c,.int .i64 lo,.int .i64 hi,.int .i64 n],.string s,.int .i64 (i:Nat),.bool true,.bool true] W fun e w'=>∃ (g:Nat) (F:Nat→Bool),e= .returned (.slice (some ⟨g,0,none⟩) N N)∧Hid (BRow w' g N F∧(∀ q,PB N F q ↔ RightP rr∧Way s.data.toList true true rr i q)∧Below W.heap.size W w')):=Lib.hid fun W h=>by
     rw[hN];exact(hAt hz hln i W h.low hil).mono fun e w' ⟨g,F,q1,q2⟩=>⟨g,F,q1,Lib.hid q2.out.2⟩
    have K9:Hid (RightP rr→∀ W,BxL w W #[.int .i64 k,.int .u64 s0,.int .u64 s1,.int .u64 s2,.int .u64 s3,.slice A m c,.int .i64 lo,.int .i64 hi,.int .i64 n] a0 a1→Calls Tryd.prog 9 #[.agg #[.int .i64 k,.int .u64 s0,.int .u64 s1,.int .u64 s2,.int .u64 s3,.slice A m c,.int .i64 lo,.int .i64 hi,.int .i64 n]] W fun e w'=>∃ G:Nat,e= .returned (.slice (some ⟨G,0,none⟩) 10 10)∧Hid (W.heap.size≤G∧KRow W.heap.size w' G (gathT rr fun _=>re0)∧Below W.heap.size W w')):=Lib.hid fun hr W h=>hKi hz hr W h.low
    clear hFi hAt hKi;have i1:(0:Int)≤(a0:Int):=by omega
    have i2:(a0:Int)<256:=by omega
    have i3:(0:Int)≤(a1:Int):=by omega
    have i4:(a1:Int)<256:=by omega
    have i5:(0:Int)<(s.size:Int)+1:=by omega
    have i6:IntKind.i64.wrap ((s.size:Int)+1)=(s.size:Int)+1:=IntWalk.i64_in _ (by omega);have i7:IntKind.i64.wrap (a0:Int)=(a0:Int):=IntWalk.i64_in _ (by omega);have i8:IntKind.i64.wrap (a1:Int)=(a1:Int):=IntWalk.i64_in _ (by omega);have hjN:j<N:=by omega
    have hiN:i<N:=by omega
    have hN9:N≤21:=by omega
    have HNN:=Lib.hid hN;have HE:=Lib.hid (And.intro e5 (And.intro e6 (And.intro i6 (And.intro i7 i8))));clear hii hjj hN e5 e6 i6 i7 i8;go_enter Tryd.func3,Tryd.ntmps3;go_wp2_with (first | (go_at_call 5;((with_reducible refine(K5.out _ HB0.out).mono ?_));rintro _ w1 ⟨rfl,HB1⟩;have p0:w1.cell? ⟨w.heap.size,0,none⟩=some (.int .i64 k):=(HB1.out.r 0).trans rfl;have p1:w1.cell? ⟨w.heap.size,1,none⟩=some (.int .u64 s0):=(HB1.out.r 1).trans rfl;have p2:w1.cell? ⟨w.heap.size,2,none⟩=some (.int .u64 s1):=(HB1.out.r 2).trans rfl;have p3:w1.cell? ⟨w.heap.size,3,none⟩=some (.int .u64 s2):=(HB1.out.r 3).trans rfl;have p4:w1.cell? ⟨w.heap.size,4,none⟩=some (.int .u64 s3):=(HB1.out.r 4).trans rfl;have p5:w1.cell? ⟨w.heap.size,5,none⟩=some (.slice A m c):=(HB1.out.r 5).trans rfl;have p6:w1.cell? ⟨w.heap.size,6,none⟩=some (.int .i64 lo):=(HB1.out.r 6).trans rfl;have p7:w1.cell? ⟨w.heap.size,7,none⟩=some (.int .i64 hi):=(HB1.out.r 7).trans rfl;have p8:w1.cell? ⟨w.heap.size,8,none⟩=some (.int .i64 n):=(HB1.out.r 8).trans rfl;have q0:w1.cell? ⟨w.heap.size+1,0,none⟩=some (.int .u8 (a0:Nat)):=(HB1.out.a 0).trans rfl;have q1:w1.cell? ⟨w.heap.size+1,1,none⟩=some (.int .u8 (a1:Nat)):=(HB1.out.a 1).trans rfl) | (go_at_call 6;((with_reducible refine(K6.out _ HB1.out).mono ?_));rintro _ w2 ⟨rfl,HB2⟩;have xp0:w2.cell? ⟨w.heap.size,0,none⟩=some (.int .i64 k):=(HB2.out.r 0).trans rfl;have xp1:w2.cell? ⟨w.heap.size,1,none⟩=some (.int .u64 s0):=(HB2.out.r 1).trans rfl;have xp2:w2.cell? ⟨w.heap.size,2,none⟩=some (.int .u64 s1):=(HB2.out.r 2).trans rfl;have xp3:w2.cell? ⟨w.heap.size,3,none⟩=some (.int .u64 s2):=(HB2.out.r 3).trans rfl;have xp4:w2.cell? ⟨w.heap.size,4,none⟩=some (.int .u64 s3):=(HB2.out.r 4).trans rfl;have xp5:w2.cell? ⟨w.heap.size,5,none⟩=some (.slice A m c):=(HB2.out.r 5).trans rfl;have xp6:w2.cell? ⟨w.heap.size,6,none⟩=some (.int .i64 lo):=(HB2.out.r 6).trans rfl;have xp7:w2.cell? ⟨w.heap.size,7,none⟩=some (.int .i64 hi):=(HB2.out.r 7).trans rfl;have xp8:w2.cell? ⟨w.heap.size,8,none⟩=some (.int .i64 n):=(HB2.out.r 8).trans rfl;have xq0:w2.cell? ⟨w.heap.size+1,0,none⟩=some (.int .u8 (a0:Nat)):=(HB2.out.a 0).trans rfl;have xq1:w2.cell? ⟨w.heap.size+1,1,none⟩=some (.int .u8 (a1:Nat)):=(HB2.out.a 1).trans rfl) | fail);obtain⟨e5,e6,i6,i7,i8⟩:=HE.out;have i9:¬ ((s.size:Int)+1=0):=by omega
    have i10:(((s.size:Int)+1)==0)=false:=by simp;omega
    have i11:IntKind.i64.wrap (i:Int)=(i:Int):=IntWalk.i64_in _ (by omega);have i12:IntKind.i64.wrap (j:Int)=(j:Int):=IntWalk.i64_in _ (by omega);have HS2:=Lib.hid (HB2.out.next (Below.refl _ w2).drew)
    go_region_held3 (fun w'=>w'.cell? ⟨w.heap.size+1,0,none⟩=some (.int .u8 (a0:Nat))∧w'.cell? ⟨w.heap.size+1,1,none⟩=some (.int .u8 (a1:Nat))) (exact⟨(HS2.out.a 0).trans rfl,(HS2.out.a 1).trans rfl⟩) (fail)
    clear e5 e6 i1 i2 i3 i4 i5 i6 i7 i8 i9 i10 i11 i12 HE xp0 xp1 xp2 xp3 xp4 xp5 xp6 xp7 xp8 xq0 xq1;have p0:w2.drew.cell? ⟨w.heap.size,0,none⟩=some (.int .i64 k):=(HS2.out.r 0).trans rfl;have p1:w2.drew.cell? ⟨w.heap.size,1,none⟩=some (.int .u64 s0):=(HS2.out.r 1).trans rfl;have p2:w2.drew.cell? ⟨w.heap.size,2,none⟩=some (.int .u64 s1):=(HS2.out.r 2).trans rfl;have p3:w2.drew.cell? ⟨w.heap.size,3,none⟩=some (.int .u64 s2):=(HS2.out.r 3).trans rfl;have p4:w2.drew.cell? ⟨w.heap.size,4,none⟩=some (.int .u64 s3):=(HS2.out.r 4).trans rfl;have p5:w2.drew.cell? ⟨w.heap.size,5,none⟩=some (.slice A m c):=(HS2.out.r 5).trans rfl;have p6:w2.drew.cell? ⟨w.heap.size,6,none⟩=some (.int .i64 lo):=(HS2.out.r 6).trans rfl;have p7:w2.drew.cell? ⟨w.heap.size,7,none⟩=some (.int .i64 hi):=(HS2.out.r 7).trans rfl;have p8:w2.drew.cell? ⟨w.heap.size,8,none⟩=some (.int .i64 n):=(HS2.out.r 8).trans rfl;have q0:w2.drew.cell? ⟨w.heap.size+1,0,none⟩=some (.int .u8 (a0:Nat)):=(HS2.out.a 0).trans rfl;have q1:w2.drew.cell? ⟨w.heap.size+1,1,none⟩=some (.int .u8 (a1:Nat)):=(HS2.out.a 1).trans rfl;have hmz:=y1j;have hst1:=z6e;have hst2:=z5r;by_cases hij:i≤j
    ·have t3:decide ((i:Int)≤(j:Int))=true:=by simp;omega
     have HIJ:=Lib.hid hij;go_wp2_with (first | (go_at_call 7;((with_reducible refine(K7.out _ HS2.out).mono ?_));rintro _ w3 ⟨M,ok,rfl,HQ7⟩;have HB3:=Lib.hid (HQ7.out.2.next (z0b w3 (.cells (cutsA M) 35)));have zp0:(w3.alloc (.cells (cutsA M) 35)).cell? ⟨w.heap.size,0,none⟩=some (.int .i64 k):=(HB3.out.r 0).trans rfl;have zp1:(w3.alloc (.cells (cutsA M) 35)).cell? ⟨w.heap.size,1,none⟩=some (.int .u64 s0):=(HB3.out.r 1).trans rfl;have zp2:(w3.alloc (.cells (cutsA M) 35)).cell? ⟨w.heap.size,2,none⟩=some (.int .u64 s1):=(HB3.out.r 2).trans rfl;have zp3:(w3.alloc (.cells (cutsA M) 35)).cell? ⟨w.heap.size,3,none⟩=some (.int .u64 s2):=(HB3.out.r 3).trans rfl;have zp4:(w3.alloc (.cells (cutsA M) 35)).cell? ⟨w.heap.size,4,none⟩=some (.int .u64 s3):=(HB3.out.r 4).trans rfl;have zp5:(w3.alloc (.cells (cutsA M) 35)).cell? ⟨w.heap.size,5,none⟩=some (.slice A m c):=(HB3.out.r 5).trans rfl;have zp6:(w3.alloc (.cells (cutsA M) 35)).cell? ⟨w.heap.size,6,none⟩=some (.int .i64 lo):=(HB3.out.r 6).trans rfl;have zp7:(w3.alloc (.cells (cutsA M) 35)).cell? ⟨w.heap.size,7,none⟩=some (.int .i64 hi):=(HB3.out.r 7).trans rfl;have zp8:(w3.alloc (.cells (cutsA M) 35)).cell? ⟨w.heap.size,8,none⟩=some (.int .i64 n):=(HB3.out.r 8).trans rfl;have zq0:(w3.alloc (.cells (cutsA M) 35)).cell? ⟨w.heap.size+1,0,none⟩=some (.int .u8 (a0:Nat)):=(HB3.out.a 0).trans rfl;have zq1:(w3.alloc (.cells (cutsA M) 35)).cell? ⟨w.heap.size+1,1,none⟩=some (.int .u8 (a1:Nat)):=(HB3.out.a 1).trans rfl) | fail)
     go_at_call 8
     ((with_reducible refine(K8.out _ HB3.out).mono ?_))
     rintro _ w4 ⟨g,F,rfl,HQ8⟩;have hF:=x4a HQ7.out.1 HIJ.out hjN HQ8.out.2.1;have d0:w4.cell? ⟨g,j,none⟩=some (.bool ok):=by rw[HQ8.out.1.cell hjN,hF]
     have HB4:=Lib.hid (HB3.out.next HQ8.out.2.2);have HM4:Hid (w4.heap[w3.heap.size]?=some (.cells (cutsA M) 35)):=Lib.hid ((HQ8.out.2.2.block w3.heap.size (by simp)).trans (heap_alloc_new w3 _))
     go_upto_if 62 with (fail)
     have HQF:=Lib.hid HQ7.out.1;generalize hMB:w3.heap.size=MB at HM4 ⊢;clear hMB d0;clear zp0 zp1 zp2 zp3 zp4 zp5 zp6 zp7 zp8 zq0 zq1 p0 p1 p2 p3 p4 p5 p6 p7 p8 q0 q1 hst1 hst2
     cases ok with
     | false=>
       have HRA:=Lib.hid (z71 HM4.out (HQF.out.no rfl));go_wp2_with (refine wpList_load_mid rfl 35 (.tmp 9) rfl MB 0 rfl zM.toList _ HRA.out Tryd.underlying35 rfl z9z ?_;unfold zM);go_ret;exact⟨rfl,HB4.out.low⟩
     | true=>
       have hall:=HQF.out.all rfl;have hRP:RightP rr:=(HQF.out.iff.mp rfl).1;have m0:w4.cell? ⟨MB,0,none⟩=some (.int .i64 (i:Int)):=(cell_of_row w4 MB 0 _ 35 (0,0) HM4.out).trans (by have:=(z19 M (n:=0) (by omega)).1;rw[hall] at this;exact this);have m1:w4.cell? ⟨MB,1,none⟩=some (.int .i64 (j:Int)):=(cell_of_row w4 MB 1 _ 35 (0,0) HM4.out).trans (by have:=(z19 M (n:=0) (by omega)).2;rw[hall] at this;exact this);have hcn:∀ W,(binOp .neq 32 (.agg #[.int .i64 (i:Int),.int .i64 (j:Int)]) (.agg #[.int .i64 (i:Int),.int .i64 (j:Int)])).run Tryd.prog W= .ok (.bool false) W:=fun W=>by rw[x00];simp
       have p0:w4.cell? ⟨w.heap.size,0,none⟩=some (.int .i64 k):=(HB4.out.r 0).trans rfl;have p1:w4.cell? ⟨w.heap.size,1,none⟩=some (.int .u64 s0):=(HB4.out.r 1).trans rfl;have p2:w4.cell? ⟨w.heap.size,2,none⟩=some (.int .u64 s1):=(HB4.out.r 2).trans rfl;have p3:w4.cell? ⟨w.heap.size,3,none⟩=some (.int .u64 s2):=(HB4.out.r 3).trans rfl;have p4:w4.cell? ⟨w.heap.size,4,none⟩=some (.int .u64 s3):=(HB4.out.r 4).trans rfl;have p5:w4.cell? ⟨w.heap.size,5,none⟩=some (.slice A m c):=(HB4.out.r 5).trans rfl;have p6:w4.cell? ⟨w.heap.size,6,none⟩=some (.int .i64 lo):=(HB4.out.r 6).trans rfl;have p7:w4.cell? ⟨w.heap.size,7,none⟩=some (.int .i64 hi):=(HB4.out.r 7).trans rfl;have p8:w4.cell? ⟨w.heap.size,8,none⟩=some (.int .i64 n):=(HB4.out.r 8).trans rfl;have q0:w4.cell? ⟨w.heap.size+1,0,none⟩=some (.int .u8 (a0:Nat)):=(HB4.out.a 0).trans rfl;have q1:w4.cell? ⟨w.heap.size+1,1,none⟩=some (.int .u8 (a1:Nat)):=(HB4.out.a 1).trans rfl;have K9':=Lib.hid (K9.out hRP w4 HB4.out);have HFI:=Lib.hid (z9c ((z8i rr).mpr hRP));have HMB:=Lib.hid (Array.getElem?_eq_some_iff.mp HM4.out).1;have HB5:Hid (∃ B5,B5=w4.heap.size):=Lib.hid ⟨_,rfl⟩;obtain⟨B5,hB5⟩:=HB5.out;rw[←hB5] at K9';have HBB:=Lib.hid hB5;clear hall hB5 HB5 K5 K6 K7 K8 K9 hmz;go_wp2_with (go_at_call 9;((with_reducible refine(K9'.out).mono ?_));rintro _ w5 ⟨G,rfl,HQ9⟩);have HB5:=Lib.hid (HB4.out.next (by rw[HBB.out] at HQ9;exact HQ9.out.2.2))
       have HI0:Hid (BxL w w5 #[.int .i64 k,.int .u64 s0,.int .u64 s1,.int .u64 s2,.int .u64 s3,.slice A m c,.int .i64 lo,.int .i64 hi,.int .i64 n] a0 a1∧w5.heap[MB]?=some (.cells (cutsA M) 35)∧KRow B5 w5 G (gathT rr fun _=>re0)∧B5≤w5.heap.size):=Lib.hid (by
        have hb:=HQ9.out.2.2;rw[HBB.out] at hb;exact⟨HB5.out,by rw[hb.block MB HMB.out];exact HM4.out,HQ9.out.2.1,by rw[HBB.out];exact hb.size⟩)
       clear m0 m1 hcn p0 p1 p2 p3 p4 p5 p6 p7 p8 q0 q1
       go_loopw [12] (fun v wr=>∃ q:Nat,1≤q∧q≤10∧v= .int .i64 (q:Nat)∧Hid (BxL w wr #[.int .i64 k,.int .u64 s0,.int .u64 s1,.int .u64 s2,.int .u64 s3,.slice A m c,.int .i64 lo,.int .i64 hi,.int .i64 n] a0 a1∧wr.heap[MB]?=some (.cells (cutsA M) 35)∧KRow B5 wr G (gathT rr fun _=>re0)∧B5≤wr.heap.size)) (fun v _=>10 - (intOf v).toNat)
       case atStart=>exact⟨1,by omega,by omega,rfl,HI0⟩
       case round=>
        obtain⟨q,hq1,hq2,rfl,HI⟩:=hrel;by_cases a:q<10
        ·obtain⟨x,hx⟩:∃ x,x=(M q).1:=⟨_,rfl⟩
         obtain⟨y,hy⟩:∃ y,y=(M q).2:=⟨_,rfl⟩;have m0:wr.cell? ⟨MB,q * 2,none⟩=some (.int .i64 x):=(cell_of_row wr MB _ _ 35 (0,0) HI.out.2.1).trans (by rw[hx];exact(z19 M a).1);have m1:wr.cell? ⟨MB,q * 2+1,none⟩=some (.int .i64 y):=(cell_of_row wr MB _ _ 35 (0,0) HI.out.2.1).trans (by rw[hy];exact(z19 M a).2);have hce:∀ W,(binOp .eql 32 (.agg #[.int .i64 x,.int .i64 y]) (.agg #[.int .i64 (-1),.int .i64 (-1)])).run Tryd.prog W= .ok (.bool (x== -1 && y== -1)) W:=fun W=>y7k x y (-1) (-1) W
         have hgrp:=HQF.out.grp rfl q (by omega) a
         have HNX:Hid (∀ W,Below wr.heap.size wr W→BxL w W #[.int .i64 k,.int .u64 s0,.int .u64 s1,.int .u64 s2,.int .u64 s3,.slice A m c,.int .i64 lo,.int .i64 hi,.int .i64 n] a0 a1∧W.heap[MB]?=some (.cells (cutsA M) 35)∧KRow B5 W G (gathT rr fun _=>re0)∧B5≤W.heap.size):=Lib.hid fun W hW=>by
          have hmb:=(Array.getElem?_eq_some_iff.mp HI.out.2.1).1;have hsz:=hW.size;exact⟨HI.out.1.next hW,by rw[hW.block MB hmb];exact HI.out.2.1,HI.out.2.2.1.keep (hW.mono HI.out.2.2.2) (hW.block G HI.out.2.2.1.lt),by have:=HI.out.2.2.2;omega⟩
         rcases hgrp with hno | ⟨a',b,hab,g1,g2,g3,hway⟩
         ·have hx1:x= -1:=by rw[hx,hno]
          have hy1:y= -1:=by rw[hy,hno]
          subst hx1 hy1;have HON:=Lib.hid (HNX.out _ (z0b wr (.cells #[.int .i64 (-1),.int .i64 (-1)] 32)));clear hx hy hno;go_wp2
          go_roundw
          case rel=>exact⟨q+1,by omega,by omega,by go_num,HON⟩
          case measure=>simp[intOf];omega
         ·have hx1:x=(a':Int):=by rw[hx,hab]
          have hy1:y=(b:Int):=by rw[hy,hab]
          subst hx1 hy1
          have hce2:∀ W,(binOp .eql 32 (.agg #[.int .i64 (a':Int),.int .i64 (b:Int)]) (.agg #[.int .i64 (-1),.int .i64 (-1)])).run Tryd.prog W= .ok (.bool false) W:=fun W=>by
           rw[hce W];have:((a':Int)== -1)=false:=by simp
           rw[this,Bool.false_and]
          clear hce;have t5:decide ((10:Int)≤(q:Int))=false:=by simp;omega
          have t6:decide ((a':Int)<(i:Int))=false:=by simp;omega
          have t7:decide ((b:Int)<(a':Int))=false:=by simp;omega
          have t8:decide ((j:Int)<(b:Int))=false:=by simp;omega
          have haN:a'<N:=by omega
          have hbN:b<N:=by omega
          have e1:(s.size:Int)+1=(N:Int):=by have:=HNN.out;omega
          have hmk0:=run_make_row' (P:=Tryd.prog) 38 4 (.bool false) 1 Tryd.underlying38 infoB rfl .i64 .i64 N (by omega) (by omega);have hmk:∀ W,(Instr.makeSlice 38 (.int .i64 ((s.size:Int)+1)) (.int .i64 ((s.size:Int)+1))).run Tryd.prog W= .ok (.slice (some ⟨W.heap.size,0,none⟩) N N) (W.alloc (.cells (madeCells #[.bool false] N) 4)):=fun W=>by rw[e1];exact hmk0 W
          clear hmk0 e1
          have hb1:∀ o,BRow ((wr.alloc o).alloc (.cells (madeCells #[.bool false] N) 4)) (wr.heap.size+1) N (fun _=>false):=fun o=>by
           have:=BRow.made (wr.alloc o) N;simpa only[World.size_alloc] using this
          have c0:=fun o=>(hb1 o).cell haN
          have f0:=fun o=>(hb1 o).free a'
          obtain⟨xe,hxe⟩:∃ xe,xe=gathT rr (fun _=>re0) q:=⟨_,rfl⟩;obtain⟨Ax,cx,hat,hkx⟩:=HI.out.2.2.1.at_ q a
          rw[←hxe] at hat hkx hway;have hfx:Fine xe:=by rw[hxe];exact(z94 rr _ HFI.out (by omega) (fun _=>⟨y2t,by decide⟩) q).1
          have hzx:sizeE xe≤1000:=by rw[hxe];exact(z94 rr _ HFI.out (by omega) (fun _=>⟨y2t,by decide⟩) q).2
          obtain⟨WR,hWR⟩:∃ WR,WR=(wr.alloc (.cells #[.int .i64 (a':Int),.int .i64 (b:Int)] 32)).alloc (.cells ((madeCells #[.bool false] N).setIfInBounds a' (.bool true)) 4):=⟨_,rfl⟩;have hsW:WR.heap.size=wr.heap.size+2:=by rw[hWR];simp
          have hbW:Below wr.heap.size wr WR:=by rw[hWR];exact z0e wr _ _
          have hrow:BRow WR.drew (wr.heap.size+1) N (fun k=>if k=a' then true else false):=by
           have h1:=BRow.new (wr.alloc (.cells #[.int .i64 (a':Int),.int .i64 (b:Int)] 32)) N (fun k=>if k=a' then true else false);simp only[World.size_alloc] at h1;rw[hWR,madeB,z6c];exact h1
          have hcc:∀ W,Below WR.heap.size WR.drew W→W.cell? ⟨wr.heap.size,1,none⟩=some (.int .i64 (b:Int)):=fun W hW=>by
           refine(hW.cell (p:=⟨wr.heap.size,1,none⟩) (by show wr.heap.size<WR.heap.size;omega)).trans ?_;show WR.cell? ⟨wr.heap.size,1,none⟩=_;rw[hWR];exact cell_of_row _ _ 1 #[.int .i64 (a':Int),.int .i64 (b:Int)] 32 (0,0) (by rw[(z0b _ _).block wr.heap.size (by simp),heap_alloc_new])
          have hkd:∀ W,Below WR.heap.size WR.drew W→At9 W ⟨G,q * 9,none⟩ xe Ax cx:=fun W hW=>by
           have hgl:=HI.out.2.2.1.lt;have hb:=hbW.drew.trans (hW.mono hbW.size);exact hat.keep (fun z=>hb.cell (p:=⟨G,z,none⟩) hgl) (hb.cell hgl)
          have hK10:Calls Tryd.prog 10 #[valR xe Ax cx,.string s,.slice (some ⟨wr.heap.size+1,0,none⟩) N N,.bool true,.bool true] WR.drew fun e w'=>∃ g,e= .returned (.slice (some ⟨g,0,none⟩) N N)∧w'.cell? ⟨g,b,none⟩=some (.bool true)∧Hid (Below WR.heap.size WR.drew w'):=by
           have hN:=HNN.out;have hkW:Kids (Lt WR.drew.heap.size) WR.drew Ax xe:=((hkx.keep (hbW.drew.mono HI.out.2.2.2)).up (by have:=hbW.size;have:=HI.out.2.2.2;show B5≤WR.heap.size;omega));have h1:=y2e s true true (by omega) xe hfx (by omega) Ax cx WR.drew (wr.heap.size+1) _ hkW (by rw[←hN];exact hrow);rw[←hN] at h1;refine h1.mono fun e w' ⟨g,F,q1,q2⟩=>⟨g,q1,?_,Lib.hid q2.out.2.2.2⟩
           have hp:PB N F b:=(q2.out.2.2.1 b).mpr ⟨a',⟨haN,by simp⟩,hway⟩;rw[q2.out.2.1.cell hbN,hp.2]
          obtain⟨kx,Sx,ksx,lox,hix,nx⟩:=xe;have HSV:Hid (∀ W,Below WR.heap.size WR.drew W→(fun w'=>w'.cell? ⟨wr.heap.size,1,none⟩=some (.int .i64 (b:Nat))∧w'.cell? ⟨G,q * 9,none⟩=some (.int .i64 kx)∧w'.cell? ⟨G,q * 9+1,none⟩=some (.int .u64 Sx.1.toNat)∧w'.cell? ⟨G,q * 9+2,none⟩=some (.int .u64 Sx.2.1.toNat)∧w'.cell? ⟨G,q * 9+3,none⟩=some (.int .u64 Sx.2.2.1.toNat)∧w'.cell? ⟨G,q * 9+4,none⟩=some (.int .u64 Sx.2.2.2.toNat)∧w'.cell? ⟨G,q * 9+5,none⟩=some (.slice Ax ksx.length cx)∧w'.cell? ⟨G,q * 9+6,none⟩=some (.int .i64 lox)∧w'.cell? ⟨G,q * 9+7,none⟩=some (.int .i64 hix)∧w'.cell? ⟨G,q * 9+8,none⟩=some (.int .i64 nx)) W):=Lib.hid fun W hW=>⟨hcc W hW,hkd W hW⟩
          simp only[valR] at hK10;have HK10:=Lib.hid hK10;have HBW:=Lib.hid hbW;have HSW:=Lib.hid hsW;have HWR:=Lib.hid hWR;clear hb1 hat hkx hway hfx hzx hsW hbW hrow hcc hkd hK10 hWR hxe hx hy hab;go_wp2;rw[←HWR.out];have hSo0:=HSV.out WR.drew (Below.refl _ _);have i1:(0:Int)≤(q:Int):=by omega
          have i2:(q:Int)<10:=by omega
          refine wp_region_held_drew (S:=(fun w'=>w'.cell? ⟨wr.heap.size,1,none⟩=some (.int .i64 (b:Nat))∧w'.cell? ⟨G,q * 9,none⟩=some (.int .i64 kx)∧w'.cell? ⟨G,q * 9+1,none⟩=some (.int .u64 Sx.1.toNat)∧w'.cell? ⟨G,q * 9+2,none⟩=some (.int .u64 Sx.2.1.toNat)∧w'.cell? ⟨G,q * 9+3,none⟩=some (.int .u64 Sx.2.2.1.toNat)∧w'.cell? ⟨G,q * 9+4,none⟩=some (.int .u64 Sx.2.2.2.toNat)∧w'.cell? ⟨G,q * 9+5,none⟩=some (.slice Ax ksx.length cx)∧w'.cell? ⟨G,q * 9+6,none⟩=some (.int .i64 lox)∧w'.cell? ⟨G,q * 9+7,none⟩=some (.int .i64 hix)∧w'.cell? ⟨G,q * 9+8,none⟩=some (.int .i64 nx))) (by kernel_rfl) hSo0 ?_;intro hSo;refine wpAnyH_take (i:=0) (v:= .slice (some ⟨G,0,none⟩) 10 10) rfl (by kernel_rfl) (by kernel_rfl) (by kernel_rfl) (fun _ _ _ h=>h) (Or.inl ⟨rfl,?yy0⟩) hSo ?_
          case yy0=>(intro w hSw;(try dsimp only at hSw);go_simp)
          (try simp only[Act.put,List.setIfInBounds_toArray,List.set_cons_zero,List.set_cons_succ,List.getElem_toArray,List.getElem_cons_zero,List.getElem_cons_succ])
          refine wpAnyH_take (i:=1) (v:= .int .i64 (q:Int)) rfl (by kernel_rfl) (by kernel_rfl) (by kernel_rfl) (fun _ _ _ h=>h) (Or.inl ⟨rfl,?yy1⟩) hSo ?_
          case yy1=>(intro w hSw;(try dsimp only at hSw);go_simp)
          (try simp only[Act.put,List.setIfInBounds_toArray,List.set_cons_zero,List.set_cons_succ,List.getElem_toArray,List.getElem_cons_zero,List.getElem_cons_succ])
          refine wpAnyH_take (i:=2) (v:= .pointer (some ⟨G,q * 9,none⟩)) rfl (by kernel_rfl) (by kernel_rfl) (by kernel_rfl) (fun _ _ _ h=>h) (Or.inl ⟨rfl,?yy2⟩) hSo ?_
          case yy2=>(intro w hSw;(try dsimp only at hSw);go_simp)
          (try simp only[Act.put,List.setIfInBounds_toArray,List.set_cons_zero,List.set_cons_succ,List.getElem_toArray,List.getElem_cons_zero,List.getElem_cons_succ])
          refine wpAnyH_take (i:=3) (v:= .agg #[.int .i64 kx,.int .u64 Sx.1.toNat,.int .u64 Sx.2.1.toNat,.int .u64 Sx.2.2.1.toNat,.int .u64 Sx.2.2.2.toNat,.slice Ax ksx.length cx,.int .i64 lox,.int .i64 hix,.int .i64 nx]) rfl (by kernel_rfl) (by kernel_rfl) (by kernel_rfl) (fun _ _ _ h=>h) (Or.inl ⟨rfl,?yy3⟩) hSo ?_
          case yy3=>(intro w hSw;(try dsimp only at hSw);go_simp)
          (try simp only[Act.put,List.setIfInBounds_toArray,List.set_cons_zero,List.set_cons_succ,List.getElem_toArray,List.getElem_cons_zero,List.getElem_cons_succ])
          refine wpAnyH_take (i:=4) (v:= .string s) rfl (by kernel_rfl) (by kernel_rfl) (by kernel_rfl) (fun _ _ _ h=>h) (Or.inl ⟨rfl,?yy4⟩) hSo ?_
          case yy4=>(intro w hSw;(try dsimp only at hSw);go_simp)
          (try simp only[Act.put,List.setIfInBounds_toArray,List.set_cons_zero,List.set_cons_succ,List.getElem_toArray,List.getElem_cons_zero,List.getElem_cons_succ])
          refine wpAnyH_take (i:=5) (v:= .slice (some ⟨wr.heap.size+1,0,none⟩) N N) rfl (by kernel_rfl) (by kernel_rfl) (by kernel_rfl) (fun _ _ _ h=>h) (Or.inl ⟨rfl,?yy5⟩) hSo ?_
          case yy5=>(intro w hSw;(try dsimp only at hSw);go_simp)
          (try simp only[Act.put,List.setIfInBounds_toArray,List.set_cons_zero,List.set_cons_succ,List.getElem_toArray,List.getElem_cons_zero,List.getElem_cons_succ])
          refine wpAnyH_take (i:=7) (v:= .pointer (some ⟨wr.heap.size,1,none⟩)) rfl (by kernel_rfl) (by kernel_rfl) (by kernel_rfl) (fun _ _ _ h=>h) (Or.inl ⟨rfl,?yy7⟩) hSo ?_
          case yy7=>(intro w hSw;(try dsimp only at hSw);go_simp)
          (try simp only[Act.put,List.setIfInBounds_toArray,List.set_cons_zero,List.set_cons_succ,List.getElem_toArray,List.getElem_cons_zero,List.getElem_cons_succ])
          refine wpAnyH_take (i:=8) (v:= .int .i64 (b:Int)) rfl (by kernel_rfl) (by kernel_rfl) (by kernel_rfl) (fun _ _ _ h=>h) (Or.inl ⟨rfl,?yy8⟩) hSo ?_
          case yy8=>(intro w hSw;(try dsimp only at hSw);go_simp)
          (try simp only[Act.put,List.setIfInBounds_toArray,List.set_cons_zero,List.set_cons_succ,List.getElem_toArray,List.getElem_cons_zero,List.getElem_cons_succ])
          refine wpAnyH_ready (rs:=[6]) (by kernel_rfl) (by simp) ?_;refine AllReadyH.cons rfl (fun K hK=>?_) AllReadyH.nil
          go_simp
          (go_at_call 10;(with_reducible refine(HK10.out).mono ?_);rintro _ w6 ⟨g,rfl,hgb,HB6⟩)
          refine hK.out _ _ (HSV.out w6 HB6.out) (fun hTo=>?_);clear hK
          (try simp only[Act.put,List.setIfInBounds_toArray,List.set_cons_zero,List.set_cons_succ,List.getElem_toArray,List.getElem_cons_zero,List.getElem_cons_succ])
          refine wpAnyH_take (i:=9) (v:= .pointer (some ⟨g,b,none⟩)) rfl (by kernel_rfl) (by kernel_rfl) (by kernel_rfl) (fun _ _ _ h=>h) (Or.inl ⟨rfl,?yy9⟩) hTo ?_
          case yy9=>(intro w hSw;(try dsimp only at hSw);go_simp)
          (try simp only[Act.put,List.setIfInBounds_toArray,List.set_cons_zero,List.set_cons_succ,List.getElem_toArray,List.getElem_cons_zero,List.getElem_cons_succ])
          refine wpAnyH_ready (rs:=[10]) (by kernel_rfl) (by simp) ?_;refine AllReadyH.cons rfl (fun K hK=>?_) AllReadyH.nil
          go_simp
          refine hK.out _ _ hTo (fun hTo2=>?_);clear hK
          (try simp only[Act.put,List.setIfInBounds_toArray,List.set_cons_zero,List.set_cons_succ,List.getElem_toArray,List.getElem_cons_zero,List.getElem_cons_succ])
          refine wpAnyH_take (i:=11) (v:= .bool false) rfl (by kernel_rfl) (by kernel_rfl) (by kernel_rfl) (fun _ _ _ h=>h) (Or.inl ⟨rfl,?yy11⟩) hTo2 ?_
          case yy11=>(intro w hSw;(try dsimp only at hSw);go_simp)
          (try simp only[Act.put,List.setIfInBounds_toArray,List.set_cons_zero,List.set_cons_succ,List.getElem_toArray,List.getElem_cons_zero,List.getElem_cons_succ])
          refine wpAnyH_done (by kernel_rfl) ?_ _;have HON:=Lib.hid (HNX.out w6 (HBW.out.drew.trans (HB6.out.mono HBW.out.size)));clear hSo hTo hTo2 hSo0 hgb;go_wp2
          go_roundw
          case rel=>exact⟨q+1,by omega,by omega,by go_num,HON⟩
          case measure=>simp[intOf];omega
        ·have hq10:q=10:=by omega
         subst hq10;go_wp2;go_ret;exact⟨rfl,HI.out.1.low⟩
    ·have t3:decide ((i:Int)≤(j:Int))=false:=by simp;omega
     have HIJ:=Lib.hid hij;go_wp2_with (first | (go_at_call 7;((with_reducible refine(K7.out _ HS2.out).mono ?_));rintro _ w3 ⟨M,ok,rfl,HQ7⟩;have hok:=x3o HQ7.out.1 HIJ.out;subst hok;have HRA:=Lib.hid (z71 (heap_alloc_new w3 _) (HQ7.out.1.no rfl))) | (refine wpList_load_mid rfl 35 (.tmp 9) rfl w3.heap.size 0 rfl zM.toList _ HRA.out Tryd.underlying35 rfl z9z ?_;unfold zM) | fail);go_ret;exact⟨rfl,(HQ7.out.2.next (z0b w3 _)).low⟩
   ·have t1:decide ((20:Int)<(s.size:Int))=true:=by simp;omega
    clear hFi hAt hKi;go_enter Tryd.func3,Tryd.ntmps3;go_wp2_with (first | (go_at_call 5;((with_reducible refine(K5.out _ HB0.out).mono ?_));rintro _ w1 ⟨rfl,HB1⟩;have p0:w1.cell? ⟨w.heap.size,0,none⟩=some (.int .i64 k):=(HB1.out.r 0).trans rfl;have p1:w1.cell? ⟨w.heap.size,1,none⟩=some (.int .u64 s0):=(HB1.out.r 1).trans rfl;have p2:w1.cell? ⟨w.heap.size,2,none⟩=some (.int .u64 s1):=(HB1.out.r 2).trans rfl;have p3:w1.cell? ⟨w.heap.size,3,none⟩=some (.int .u64 s2):=(HB1.out.r 3).trans rfl;have p4:w1.cell? ⟨w.heap.size,4,none⟩=some (.int .u64 s3):=(HB1.out.r 4).trans rfl;have p5:w1.cell? ⟨w.heap.size,5,none⟩=some (.slice A m c):=(HB1.out.r 5).trans rfl;have p6:w1.cell? ⟨w.heap.size,6,none⟩=some (.int .i64 lo):=(HB1.out.r 6).trans rfl;have p7:w1.cell? ⟨w.heap.size,7,none⟩=some (.int .i64 hi):=(HB1.out.r 7).trans rfl;have p8:w1.cell? ⟨w.heap.size,8,none⟩=some (.int .i64 n):=(HB1.out.r 8).trans rfl;have q0:w1.cell? ⟨w.heap.size+1,0,none⟩=some (.int .u8 (a0:Nat)):=(HB1.out.a 0).trans rfl;have q1:w1.cell? ⟨w.heap.size+1,1,none⟩=some (.int .u8 (a1:Nat)):=(HB1.out.a 1).trans rfl) | (go_at_call 6;((with_reducible refine(K6.out _ HB1.out).mono ?_));rintro _ w2 ⟨rfl,HB2⟩) | fail);go_ret;exact⟨rfl,HB2.out.low⟩
end
section
set_option linter.unusedSimpArgs false
def pieceN (s:ByteArray) (c:Int × Int):ByteArray:=if 0≤c.1∧c.1≤c.2∧c.2≤s.size then s.extract c.1.toNat c.2.toNat else ⟨#[]⟩
def strsA (s:ByteArray) (M:Nat→Int × Int):Array Value:=#[.string (pieceN s (M 0)),.string (pieceN s (M 1)),.string (pieceN s (M 2)),.string (pieceN s (M 3)),.string (pieceN s (M 4)),.string (pieceN s (M 5)),.string (pieceN s (M 6)),.string (pieceN s (M 7)),.string (pieceN s (M 8)),.string (pieceN s (M 9))]
def NamesC:Prop:=∀ (M:Nat→Int × Int) (s:ByteArray) (w:World),s.size≤40→Calls Tryd.prog 11 #[.agg (cutsA M),.string s] w fun e w'=>e= .returned (.agg (strsA s M))∧Below w.heap.size w w'
theorem z3b {n:Nat} (hn:n<10):n=0∨n=1∨n=2∨n=3∨n=4∨n=5∨n=6∨n=7∨n=8∨n=9:=by omega
theorem z47 (s:ByteArray) (M:Nat→Int × Int) {n:Nat} (hn:n<10):(strsA s M)[n]?=some (.string (pieceN s (M n))):=by
 rcases z3b hn with rfl | rfl | rfl | rfl | rfl | rfl | rfl | rfl | rfl | rfl <;> rfl
def updM (M:Nat→Int × Int) (n:Nat) (c:Int × Int):Nat→Int × Int:=fun k=>if k=n then c else M k
theorem y7o (M:Nat→Int × Int) {n:Nat} (hn:n<10) (x y:Int):((cutsA M).setIfInBounds (n * 2) (.int .i64 x)).setIfInBounds (n * 2+1) (.int .i64 y)=cutsA (updM M n (x,y)):=by
 rcases z3b hn with rfl | rfl | rfl | rfl | rfl | rfl | rfl | rfl | rfl | rfl <;> rfl
theorem x2n (L:Nat→Int × Int) {q:Nat} (hq:q<10) (W:World):(Instr.index 44 (.agg (cutsA L)) (.int .i64 (q:Nat))).run Tryd.prog W= .ok (.agg #[.int .i64 (L q).1,.int .i64 (L q).2]) W:=by
 rcases z3b hq with rfl | rfl | rfl | rfl | rfl | rfl | rfl | rfl | rfl | rfl <;> simp[Instr.index,run_underlying Tryd.underlying44,asIntOf,go_sem,cutsA]
theorem x2t (s:ByteArray) (M:Nat→Int × Int) {q:Nat} (hq:q<10) (W:World):(Instr.index 45 (.agg (strsA s M)) (.int .i64 (q:Nat))).run Tryd.prog W= .ok (.string (pieceN s (M q))) W:=by
 rcases z3b hq with rfl | rfl | rfl | rfl | rfl | rfl | rfl | rfl | rfl | rfl <;> simp[Instr.index,run_underlying Tryd.underlying45,asIntOf,go_sem,strsA]
theorem y8i {M M':Nat→Int × Int} (h:∀ n,n<10→M n=M' n):cutsA M=cutsA M':=by
 unfold cutsA;rw[h 0 (by omega),h 1 (by omega),h 2 (by omega),h 3 (by omega),h 4 (by omega),h 5 (by omega),h 6 (by omega),h 7 (by omega),h 8 (by omega),h 9 (by omega)]
theorem x3z:(Tryd.prog.info? 44).map (·.size)=some 20:=by kernel_rfl
theorem z7l {W:World} {MB t:Nat} {M:Nat→Int × Int} (h:W.heap[MB]?=some (.cells (cutsA M) t)):W.rangeAt MB 0 (cutsA M).toList:=fun q v hq=>by
 rw[Nat.zero_add];exact(cell_of_row W MB q _ t (0,0) h).trans (by rw[←Array.getElem?_toList];exact hq)
theorem y64 (HA:AwC) (HN:NamesC) (L:Nat→Int × Int) (s:ByteArray) (w:World):
  Calls Tryd.prog 4 #[.agg (cutsA L),.string s] w fun e w'=>e= .returned (.bool true)∧Below w.heap.size w w':=by
 have K5:Hid (Calls Tryd.prog 5 #[] (w.alloc (.cells (cutsA L) 44)) fun e w'=>e= .returned (.bool true)∧Hid (w'.heap[w.heap.size]?=some (.cells (cutsA L) 44)∧Below w.heap.size w w')):=Lib.hid ((HA _).mono fun e w' ⟨q1,q2⟩=>⟨q1,Lib.hid ⟨by rw[q2.block w.heap.size (by simp),heap_alloc_new],(z0b w _).trans (q2.mono (by simp))⟩⟩);by_cases hln:s.size≤40
 ·have t1:decide ((40:Int)<(s.size:Int))=false:=by simp;omega
  have K11:=Lib.hid (fun M w=>HN M s w hln);clear HA HN;go_enter Tryd.func4,Tryd.ntmps4;go_wp2_with (first | (go_at_call 5;((with_reducible refine(K5.out).mono ?_));rintro _ w1 ⟨rfl,HQ⟩;have hlt:=(Array.getElem?_eq_some_iff.mp HQ.out.1).1;have HRA:=fun o=>z7l (W:=w1.alloc o) (MB:=w.heap.size) (t:=44) (M:=L) (((z0b w1 o).block w.heap.size hlt).trans HQ.out.1)) | (refine wpList_load_mid rfl 44 (.tmp 2) rfl w.heap.size 0 rfl (cutsA L).toList _ (HRA _) Tryd.underlying44 rfl x3z ?_;simp only[Array.toArray_toList]) | fail);generalize hMB:w1.heap.size=MB;have HS:Hid (∀ o,(w1.alloc o).heap[w.heap.size]?=some (.cells (cutsA L) 44)∧Below w.heap.size w (w1.alloc o)∧w.heap.size≠MB):=Lib.hid fun o=>⟨((z0b w1 o).block w.heap.size hlt).trans HQ.out.1,HQ.out.2.trans ((z0b w1 o).mono HQ.out.2.size),by omega⟩
  have HLT:Hid (w.heap.size<MB):=Lib.hid (by omega);have HZ:Hid ((w1.alloc (.cells (cutsA fun _=>(0,0)) 35)).heap[MB]?=some (.cells (cutsA fun k=>if k<0 then L k else (0,0)) 35)):=Lib.hid (by rw[←hMB,heap_alloc_new];simp);clear HRA hMB hlt
  go_loopw [18] (fun v wr=>∃ q:Nat,q≤10∧v= .int .i64 (q:Nat)∧Hid (wr.heap[w.heap.size]?=some (.cells (cutsA L) 44)∧wr.heap[MB]?=some (.cells (cutsA fun k=>if k<q then L k else (0,0)) 35)∧Below w.heap.size w wr)) (fun v _=>10 - (intOf v).toNat)
  case atStart=>exact⟨0,by omega,rfl,Lib.hid ⟨(HS.out _).1,HZ.out,(HS.out _).2.1⟩⟩
  case round=>
   obtain⟨q,hq,rfl,HI⟩:=hrel;by_cases a:q<10
   ·have hix:=fun W=>x2n L a W
    obtain⟨x,hx⟩:∃ x,x=(L q).1:=⟨_,rfl⟩;obtain⟨y,hy⟩:∃ y,y=(L q).2:=⟨_,rfl⟩;rw[←hx,←hy] at hix;have hg:=z19 (fun k=>if k<q then L k else (0,0)) a;have c0:wr.cell? ⟨MB,q * 2,none⟩=some (.int .i64 0):=(cell_of_row wr MB _ _ 35 (0,0) HI.out.2.1).trans (by simpa using hg.1);have c1:wr.cell? ⟨MB,q * 2+1,none⟩=some (.int .i64 0):=(cell_of_row wr MB _ _ 35 (0,0) HI.out.2.1).trans (by simpa using hg.2);have f0:wr.frozen? ⟨MB,q * 2,none⟩=false:=frozen_of_row _ _ _ _ 35 HI.out.2.1;have f1:wr.frozen? ⟨MB,q * 2+1,none⟩=false:=frozen_of_row _ _ _ _ 35 HI.out.2.1
    have HREL:Hid (∀ o,(((wr.setCell ⟨MB,q * 2,none⟩ (.int .i64 x)).setCell ⟨MB,q * 2+1,none⟩ (.int .i64 y)).alloc o).heap[w.heap.size]?=some (.cells (cutsA L) 44)∧(((wr.setCell ⟨MB,q * 2,none⟩ (.int .i64 x)).setCell ⟨MB,q * 2+1,none⟩ (.int .i64 y)).alloc o).heap[MB]?=some (.cells (cutsA fun k=>if k<q+1 then L k else (0,0)) 35)∧Below w.heap.size w (((wr.setCell ⟨MB,q * 2,none⟩ (.int .i64 x)).setCell ⟨MB,q * 2+1,none⟩ (.int .i64 y)).alloc o)):=Lib.hid fun o=>by
     have hlt:=HLT.out;have hml:=(Array.getElem?_eq_some_iff.mp HI.out.2.1).1;have hwl:=(Array.getElem?_eq_some_iff.mp HI.out.1).1;have e1:=heap_setCell_same wr MB (q * 2) _ 35 (.int .i64 x) HI.out.2.1;have e2:=heap_setCell_same _ MB (q * 2+1) _ 35 (.int .i64 y) e1;rw[y7o _ a] at e2
     have e3:updM (fun k=>if k<q then L k else (0,0)) q (x,y)=fun k=>if k<q+1 then L k else (0,0):=by
      funext k
      unfold updM;by_cases h1:k=q
      ·subst h1;rw[if_pos rfl,if_pos (by omega),hx,hy]
      ·rw[if_neg h1]
       dsimp only;by_cases h2:k<q
       ·rw[if_pos h2,if_pos (by omega)]
       ·rw[if_neg h2,if_neg (by omega)]
     rw[e3] at e2;have hs:((wr.setCell ⟨MB,q * 2,none⟩ (.int .i64 x)).setCell ⟨MB,q * 2+1,none⟩ (.int .i64 y)).heap.size=wr.heap.size:=by simp[World.setCell]
     refine⟨?_,?_,?_⟩
     ·rw[(z0b _ o).block w.heap.size (by omega),heap_setCell_other _ _ _ _ (by show w.heap.size≠MB;omega),heap_setCell_other _ _ _ _ (by show w.heap.size≠MB;omega)];exact HI.out.1
     ·rw[(z0b _ o).block MB (by omega)];exact e2
     ·exact((HI.out.2.2.setCell (by show w.heap.size≤MB;omega) _).setCell (by show w.heap.size≤MB;omega) _).trans ((z0b _ o).mono (by rw[hs];exact HI.out.2.2.size))
    have hml:MB<wr.heap.size:=(Array.getElem?_eq_some_iff.mp HI.out.2.1).1;clear hx hy hg;go_wp2
    go_roundw
    case rel=>exact⟨q+1,by omega,by go_num,Lib.hid (HREL.out _)⟩
    case measure=>simp[intOf];omega
   ·have hq10:q=10:=by omega
    subst hq10
    have HM:Hid (wr.heap[MB]?=some (.cells (cutsA L) 35)):=Lib.hid (by
     have:=HI.out.2.1;rw[y8i (M':=L) (fun n hn=>by rw[if_pos hn])] at this;exact this)
    have KN:Hid (Calls Tryd.prog 11 #[.agg (cutsA L),.string s] wr fun e w'=>e= .returned (.agg (strsA s L))∧Hid (w'.heap[w.heap.size]?=some (.cells (cutsA L) 44)∧Below w.heap.size w w')):=Lib.hid ((K11.out L wr).mono fun e w' ⟨q1,q2⟩=>⟨q1,Lib.hid ⟨by rw[q2.block w.heap.size (Array.getElem?_eq_some_iff.mp HI.out.1).1];exact HI.out.1,HI.out.2.2.trans (q2.mono HI.out.2.2.size)⟩⟩);have HRB:=Lib.hid (z7l HM.out);go_wp2_with (first | (refine wpList_load_mid rfl 35 (.tmp 5) rfl MB 0 rfl (cutsA L).toList _ HRB.out Tryd.underlying35 rfl z9z ?_;simp only[Array.toArray_toList]) | (go_at_call 11;((with_reducible refine(KN.out).mono ?_));rintro _ w2 ⟨rfl,HQ2⟩) | fail);clear HS HZ HI HM KN K11 HRB K5 HQ HLT
    go_loopw [34] (fun v wr=>∃ q:Nat,q≤10∧v= .int .i64 (q:Nat)∧Hid (wr.heap[w.heap.size]?=some (.cells (cutsA L) 44)∧Below w.heap.size w wr)) (fun v _=>10 - (intOf v).toNat)
    case atStart=>exact⟨0,by omega,rfl,HQ2⟩
    case round=>
     obtain⟨q,hq,rfl,HI⟩:=hrel;by_cases a:q<10
     ·have hix:=fun W=>x2t s L a W
      obtain⟨x,hx⟩:∃ x,x=(L q).1:=⟨_,rfl⟩;obtain⟨y,hy⟩:∃ y,y=(L q).2:=⟨_,rfl⟩;have hg:=z19 L a;rw[←hx,←hy] at hg;have hwl:w.heap.size<wr.heap.size:=(Array.getElem?_eq_some_iff.mp HI.out.1).1;have c0:wr.cell? ⟨w.heap.size,q * 2,none⟩=some (.int .i64 x):=(cell_of_row wr _ _ _ 44 (0,0) HI.out.1).trans hg.1;have c1:wr.cell? ⟨w.heap.size,q * 2+1,none⟩=some (.int .i64 y):=(cell_of_row wr _ _ _ 44 (0,0) HI.out.1).trans hg.2;have HB:Hid (∀ o,(wr.alloc o).heap[w.heap.size]?=some (.cells (cutsA L) 44)∧Below w.heap.size w (wr.alloc o)):=Lib.hid fun o=>⟨by rw[(z0b wr o).block w.heap.size (Array.getElem?_eq_some_iff.mp HI.out.1).1];exact HI.out.1,HI.out.2.trans ((z0b wr o).mono HI.out.2.size)⟩
      have hpc:pieceN s (L q)=if 0≤x∧x≤y∧y≤s.size then s.extract x.toNat y.toNat else ⟨#[]⟩:=by unfold pieceN;rw[←hx,←hy]
      clear hg hx hy;by_cases x0:0≤x
      ·have u1:decide ((0:Int)≤x)=true:=by simp[x0]
       by_cases xy:x≤y
       ·have u2:decide (x≤y)=true:=by simp[xy]
        by_cases yl:y≤(s.size:Int)
        ·have u3:decide (y≤(s.size:Int))=true:=by simp[yl]
         rw[if_pos ⟨x0,xy,yl⟩] at hpc;obtain⟨X,rfl⟩:∃ X:Nat,x=(X:Int):=⟨x.toNat,by omega⟩;obtain⟨Y,rfl⟩:∃ Y:Nat,y=(Y:Int):=⟨y.toNat,by omega⟩;simp only[Int.toNat_natCast] at hpc;rw[hpc] at hix;clear hpc;go_wp2
         go_roundw
         case rel=>exact⟨q+1,by omega,by go_num,Lib.hid (HB.out _)⟩
         case measure=>simp[intOf];omega
        ·have u3:decide (y≤(s.size:Int))=false:=by simp;omega
         rw[if_neg (fun h=>yl h.2.2)] at hpc;rw[hpc] at hix;clear hpc;go_wp2
         go_roundw
         case rel=>exact⟨q+1,by omega,by go_num,Lib.hid (HB.out _)⟩
         case measure=>simp[intOf];omega
       ·have u2:decide (x≤y)=false:=by simp;omega
        rw[if_neg (fun h=>xy h.2.1)] at hpc;rw[hpc] at hix;clear hpc;go_wp2
        go_roundw
        case rel=>exact⟨q+1,by omega,by go_num,Lib.hid (HB.out _)⟩
        case measure=>simp[intOf];omega
      ·have u1:decide ((0:Int)≤x)=false:=by simp;omega
       rw[if_neg (fun h=>x0 h.1)] at hpc;rw[hpc] at hix;clear hpc;go_wp2
       go_roundw
       case rel=>exact⟨q+1,by omega,by go_num,Lib.hid (HB.out _)⟩
       case measure=>simp[intOf];omega
     ·have hq10:q=10:=by omega
      subst hq10;go_wp2;go_ret;exact⟨rfl,HI.out.2⟩
 ·have t1:decide ((40:Int)<(s.size:Int))=true:=by simp;omega
  clear HA HN;go_enter Tryd.func4,Tryd.ntmps4;go_wp2_with (go_at_call 5;((with_reducible refine(K5.out).mono ?_));rintro _ w1 ⟨rfl,HQ⟩);go_ret;exact⟨rfl,HQ.out.2⟩
end
end Go.Proofs.YtejgbpbljdhndaaDoor
