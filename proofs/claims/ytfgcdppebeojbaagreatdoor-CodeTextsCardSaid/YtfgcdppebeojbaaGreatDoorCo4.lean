import Derived.Test.YtfgcdppebeojbaaGreatDoorNBoth
import Derived.Test.YtfgcdppebeojbaaGreatDoorSc41
import Derived.Lib.ItoaLen
import Derived.Test.YtfgcdppebeojbaaGreatDoorPlainC
import Derived.Test.YtfgcdppebeojbaaGreatDoorEx20
import Derived.Deep.OwnRows
import Derived.Deep.RegionHeld3
import Derived.Test.YtfgcdppebeojbaaGreatDoorShelf
namespace Go.Proofs.YtfgcdppebeojbaaGreatDoor
open Go Go.RowKit
set_option maxRecDepth 100000
set_option maxHeartbeats 8000000
def namesL:List Bs:=[[63],[115,101,116],[108,101,116],[105,110,99,114],[106,117,109,112],[117,110,108,101,115,115],[99,97,108,108],[114,101,116,117,114,110],[115,112,97,119,110],[117,115,101],[115,101,110,100],[116,105,109,101,111,117,116],[101,120,112,101,99,116],[98,101,102,111,114,101],[97,102,116,101,114],[97,103,97,105,110],[101,120,105,116]]
def wordT (op:Int):Bs:=if 1≤op∧op≤16 then namesL.getD op.toNat [] else [63]
def lineT (k op a:Int):Bs:=Lib.itoa k++32::(wordT op++32::Lib.itoa a)
def lineB (k op a:Int):ByteArray:=⟨(lineT k op a).toArray⟩
theorem lineB_eq (k op a:Int):((((⟨(Lib.itoa k).toArray⟩:ByteArray)++⟨#[32]⟩)++⟨(wordT op).toArray⟩)++⟨#[32]⟩)++⟨(Lib.itoa a).toArray⟩=lineB k op a:=by
 unfold lineB lineT;exact ba_ofN _ _ (by simp)
def NamesAt (w:World):Prop:=∀ i s,namesL[i]?=some s→w.cell? ⟨0,i,none⟩=some (.string ⟨s.toArray⟩)
theorem NamesAt.below {w w':World} (h:NamesAt w) (hb:Below w.heap.size w w'):NamesAt w':=fun i s e=>(hb.cell (World.block_lt_of_cell? w _ (h i s e))).trans (h i s e)
theorem wordT_at {i:Nat} (h:i<17):∃ s,namesL[i]?=some s∧wordT (i:Int)=s:=by
 have hl:namesL.length=17:=rfl;have hi:i<namesL.length:=by omega
 refine⟨namesL[i],List.getElem?_eq_getElem hi,?_⟩;unfold wordT;by_cases h0:i=0
 ·subst h0;rfl
 ·rw[if_pos (by omega)]
  simp[List.getD,hi]
theorem wordT_no {op:Int} (h:op<1∨16<op):wordT op=[63]:=by unfold wordT;rw[if_neg (by omega)]
theorem names_len:∀ s∈namesL,s.length≤7:=by decide
theorem wordT_len (op:Int):(wordT op).length≤7:=by
 by_cases h:1≤op∧op≤16
 ·obtain⟨s,h1,h2⟩:=wordT_at (i:=op.toNat) (by omega)
  rw[show ((op.toNat:Nat):Int)=op by omega] at h2;rw[h2];exact names_len s (List.mem_of_getElem? h1)
 ·rw[wordT_no (by omega)];decide
theorem opname_any (op:Int) (w:World) (hN:NamesAt w):Calls Tryz.prog 30 #[.int .i64 op] w fun e w'=>e= .returned (.string ⟨(wordT op).toArray⟩)∧w=w':=by
 have h0:=hN 0 _ rfl;by_cases c1:op<0
 ·rw[wordT_no (by omega)]
  clear hN;go_enter Tryz.func30,Tryz.ntmps30;go_wp2;go_ret;exact⟨rfl,rfl⟩
 ·by_cases c2:17≤op
  ·rw[wordT_no (by omega)]
   clear hN;go_enter Tryz.func30,Tryz.ntmps30;go_wp2;go_ret;exact⟨rfl,rfl⟩
  ·obtain⟨i,rfl⟩:∃ i:Nat,op=i:=⟨op.toNat,by omega⟩
   have hi:i<17:=by omega
   obtain⟨s,h1,h2⟩:=wordT_at hi;rw[h2];have hc:=hN i s h1;have hi2:(i:Int)<17:=by omega
   clear hN h1 h2 h0 c1 c2;go_enter Tryz.func30,Tryz.ntmps30;go_wp2;go_ret;exact⟨rfl,rfl⟩
def wordsV:Array Value:=#[.string ⟨#[115,101,116]⟩,.string ⟨#[108,101,116]⟩,.string ⟨#[105,110,99,114]⟩,.string ⟨#[106,117,109,112]⟩,.string ⟨#[117,110,108,101,115,115]⟩,.string ⟨#[99,97,108,108]⟩,.string ⟨#[114,101,116,117,114,110]⟩,.string ⟨#[115,112,97,119,110]⟩,.string ⟨#[117,115,101]⟩,.string ⟨#[115,101,110,100]⟩,.string ⟨#[116,105,109,101,111,117,116]⟩,.string ⟨#[101,120,112,101,99,116]⟩,.string ⟨#[98,101,102,111,114,101]⟩,.string ⟨#[97,102,116,101,114]⟩,.string ⟨#[97,103,97,105,110]⟩,.string ⟨#[101,120,105,116]⟩]
theorem wordsV_at {j:Nat} (h:j<16):∃ s:Bs,wordsV[j]?=some (.string ⟨s.toArray⟩)∧wordT ((j:Int)+1)=s:=by
 have e:wordsV=(namesL.tail.map fun s=>Value.string ⟨s.toArray⟩).toArray:=rfl;have hl:namesL.tail.length=16:=rfl;have hj:j<namesL.tail.length:=by omega
 refine⟨namesL.tail[j],?_,?_⟩
 ·rw[e];simp
 ·obtain⟨s,h1,h2⟩:=wordT_at (i:=j+1) (by omega)
  rw[show ((j:Int)+1)=((j+1:Nat):Int) by omega,h2];have:namesL[j+1]?=namesL.tail[j]?:=rfl;rw[h1,List.getElem?_eq_getElem hj] at this;injection this
theorem rline_any (k op a:Int) (v2 v3 v4 v5 v6 v7 v8 v9 v10:Value) (hk: -9223372036854775808≤k∧k≤9223372036854775807) (ha: -9223372036854775808≤a∧a≤9223372036854775807) (w:World):
  Calls Tryz.prog 14 #[.int .i64 k,.agg #[.int .i64 op,.int .i64 a,v2,v3,v4,v5,v6,v7,v8,v9,v10]] w fun e w'=>e= .returned (.string (lineB k op a))∧Below w.heap.size w w':=by
 obtain⟨S1,hS1⟩:∃ S:ByteArray,S=⟨(Lib.itoa k).toArray⟩:=⟨_,rfl⟩;obtain⟨S2,hS2⟩:∃ S:ByteArray,S=⟨(Lib.itoa a).toArray⟩:=⟨_,rfl⟩;have hs1:S1.size≤21:=by rw[hS1];show (Lib.itoa k).toArray.size≤21;rw[List.size_toArray];exact Lib.itoa_length_le k hk.1 hk.2
 have hs2:S2.size≤21:=by rw[hS2];show (Lib.itoa a).toArray.size≤21;rw[List.size_toArray];exact Lib.itoa_length_le a ha.1 ha.2
 have KP:Hid (∀ w',Calls Tryz.prog 31 #[.int .i64 k] w' fun e w2=>e= .returned (.string S1)∧Below w'.heap.size w' w2):=Lib.hid fun w'=>by rw[hS1];exact rprint_anyN k hk w'
 have KQ:Hid (∀ w',Calls Tryz.prog 31 #[.int .i64 a] w' fun e w2=>e= .returned (.string S2)∧Below w'.heap.size w' w2):=Lib.hid fun w'=>by rw[hS2];exact rprint_anyN a ha w'
 clear hk ha;have he:=lineB_eq k op a;rw[←hS1,←hS2] at he;clear hS1 hS2;obtain⟨W,hW⟩:∃ W,W=(w.alloc (.cells #[.int .i64 op,.int .i64 a,v2,v3,v4,v5,v6,v7,v8,v9,v10] 46)).alloc (.cells #[.string ⟨#[115,101,116]⟩,.string ⟨#[108,101,116]⟩,.string ⟨#[105,110,99,114]⟩,.string ⟨#[106,117,109,112]⟩,.string ⟨#[117,110,108,101,115,115]⟩,.string ⟨#[99,97,108,108]⟩,.string ⟨#[114,101,116,117,114,110]⟩,.string ⟨#[115,112,97,119,110]⟩,.string ⟨#[117,115,101]⟩,.string ⟨#[115,101,110,100]⟩,.string ⟨#[116,105,109,101,111,117,116]⟩,.string ⟨#[101,120,112,101,99,116]⟩,.string ⟨#[98,101,102,111,114,101]⟩,.string ⟨#[97,102,116,101,114]⟩,.string ⟨#[97,103,97,105,110]⟩,.string ⟨#[101,120,105,116]⟩] 9):=⟨_,rfl⟩;have HW:=Lib.hid hW;have HB:Hid (Below w.heap.size w W):=Lib.hid (by rw[hW];exact((Below.refl _ _).alloc (Nat.le_refl _) _).alloc (by simp) _);have HC1:Hid (W.cell? ⟨w.heap.size,1,none⟩=some (.int .i64 a)):=Lib.hid (by rw[hW];simp[go_sem])
 have HX:Hid (∀ (j:Nat) (u:Value),wordsV[j]?=some u→((w.alloc (.cells #[.int .i64 op,.int .i64 a,v2,v3,v4,v5,v6,v7,v8,v9,v10] 46)).alloc (.cells #[.string ⟨#[115,101,116]⟩,.string ⟨#[108,101,116]⟩,.string ⟨#[105,110,99,114]⟩,.string ⟨#[106,117,109,112]⟩,.string ⟨#[117,110,108,101,115,115]⟩,.string ⟨#[99,97,108,108]⟩,.string ⟨#[114,101,116,117,114,110]⟩,.string ⟨#[115,112,97,119,110]⟩,.string ⟨#[117,115,101]⟩,.string ⟨#[115,101,110,100]⟩,.string ⟨#[116,105,109,101,111,117,116]⟩,.string ⟨#[101,120,112,101,99,116]⟩,.string ⟨#[98,101,102,111,114,101]⟩,.string ⟨#[97,102,116,101,114]⟩,.string ⟨#[97,103,97,105,110]⟩,.string ⟨#[101,120,105,116]⟩] 9)).cell? ⟨w.heap.size+1,j,none⟩=some u):=Lib.hid fun j u hj=>by
  have:=new_at (w.alloc (.cells #[.int .i64 op,.int .i64 a,v2,v3,v4,v5,v6,v7,v8,v9,v10] 46)) 9 wordsV j u (by simpa using hj);rwa [World.size_alloc] at this
 clear hW;by_cases c1:op<1
 ·rw[wordT_no (.inl c1)] at he
  have HE:=Lib.hid he;clear he HX;go_enter Tryz.func14,Tryz.ntmps14;go_wp2;rw[←HW.out];have p1:=bw_cell HC1.out;have hne:=bw_some W;refine wp_region_below (by kernel_rfl) (by kernel_rfl) ?_
  repeat (go_big_quiet_step (first | (go_at_call 31;with_reducible exact bw_calls (KP.out _)) | (go_at_call 31;with_reducible exact bw_calls (KQ.out _)) | fail))
  refine wpQuiet_nil ?_;intro w5 hw5;obtain⟨m5,rfl⟩:=hw5;have B5:=Lib.hid m5.2;go_wp2;go_ret;exact⟨by rw[←HE.out];rfl,HB.out.trans (B5.out.mono HB.out.size)⟩
 ·by_cases c2:16<op
  ·rw[wordT_no (.inr c2)] at he
   have HE:=Lib.hid he;clear he HX;go_enter Tryz.func14,Tryz.ntmps14;go_wp2;rw[←HW.out];have p1:=bw_cell HC1.out;have hne:=bw_some W;refine wp_region_below (by kernel_rfl) (by kernel_rfl) ?_
   repeat (go_big_quiet_step (first | (go_at_call 31;with_reducible exact bw_calls (KP.out _)) | (go_at_call 31;with_reducible exact bw_calls (KQ.out _)) | fail))
   refine wpQuiet_nil ?_;intro w5 hw5;obtain⟨m5,rfl⟩:=hw5;have B5:=Lib.hid m5.2;go_wp2;go_ret;exact⟨by rw[←HE.out];rfl,HB.out.trans (B5.out.mono HB.out.size)⟩
  ·obtain⟨j,rfl⟩:∃ j:Nat,op=(j:Int)+1:=⟨(op - 1).toNat,by omega⟩
   have hj:j<16:=by omega
   obtain⟨s,h1,h2⟩:=wordsV_at hj;rw[h2] at he;have hc:=HX.out j _ h1;have hs3:=wordT_len ((j:Int)+1);rw[h2] at hs3;obtain⟨S3,hS3⟩:∃ S:ByteArray,S=⟨s.toArray⟩:=⟨_,rfl⟩;have hs4:S3.size≤7:=by rw[hS3];show s.toArray.size≤7;rw[List.size_toArray];exact hs3
   rw[←hS3] at he hc;clear hS3 hs3;have HE:=Lib.hid he;have hw1:IntKind.i64.wrap ((j:Int)+1 - 1)=(j:Int):=by rw[show ((j:Int)+1 - 1)=j by omega];exact IntWalk.i64_in _ (by omega)
   clear he HX h1 h2 c1 c2;go_enter Tryz.func14,Tryz.ntmps14;go_wp2;rw[←HW.out];have p1:=bw_cell HC1.out;have hne:=bw_some W;refine wp_region_below (by kernel_rfl) (by kernel_rfl) ?_
   repeat (go_big_quiet_step (first | (go_at_call 31;with_reducible exact bw_calls (KP.out _)) | (go_at_call 31;with_reducible exact bw_calls (KQ.out _)) | fail))
   refine wpQuiet_nil ?_;intro w5 hw5;obtain⟨m5,rfl⟩:=hw5;have B5:=Lib.hid m5.2;go_wp2;go_ret;exact⟨by rw[←HE.out];rfl,HB.out.trans (B5.out.mono HB.out.size)⟩
structure Ins where
 op:Int
 a:Int
 nm:ByteArray
 n:Int
 p:Option Addr
 pn:Nat
 pc:Nat
 ck:Int
 cn:Int
 cs:ByteArray
 co:ByteArray
 x:Option Addr
 xn:Nat
 xc:Nat
 l:Option Addr
 ln:Nat
 lc:Nat
def cellsI (x:Ins):List Value:=[.int .i64 x.op,.int .i64 x.a,.string x.nm,.int .i64 x.n,.slice x.p x.pn x.pc,.int .i64 x.ck,.int .i64 x.cn,.string x.cs,.string x.co,.slice x.x x.xn x.xc,.slice x.l x.ln x.lc]
theorem LieL.at11 {w:World} {a:Addr} {v0 v1 v2 v3 v4 v5 v6 v7 v8 v9 v10:Value} (h:LieL w a [v0,v1,v2,v3,v4,v5,v6,v7,v8,v9,v10]):w.cell? a=some v0∧w.cell? ⟨a.block,a.off+1,none⟩=some v1∧w.cell? ⟨a.block,a.off+2,none⟩=some v2∧w.cell? ⟨a.block,a.off+3,none⟩=some v3∧w.cell? ⟨a.block,a.off+4,none⟩=some v4∧w.cell? ⟨a.block,a.off+5,none⟩=some v5∧w.cell? ⟨a.block,a.off+6,none⟩=some v6∧w.cell? ⟨a.block,a.off+7,none⟩=some v7∧w.cell? ⟨a.block,a.off+8,none⟩=some v8∧w.cell? ⟨a.block,a.off+9,none⟩=some v9∧w.cell? ⟨a.block,a.off+10,none⟩=some v10:=by
 have h0:=h 0 _ rfl;rw[show a.add 0=a by simp[Addr.add]] at h0;have g:∀ i,0<i→a.add i=⟨a.block,a.off+i,none⟩:=fun i hi=>by unfold Addr.add;rw[if_neg (by omega)]
 exact⟨h0,by rw[←g 1 (by decide)];exact h 1 _ rfl,by rw[←g 2 (by decide)];exact h 2 _ rfl,by rw[←g 3 (by decide)];exact h 3 _ rfl,by rw[←g 4 (by decide)];exact h 4 _ rfl,by rw[←g 5 (by decide)];exact h 5 _ rfl,by rw[←g 6 (by decide)];exact h 6 _ rfl,by rw[←g 7 (by decide)];exact h 7 _ rfl,by rw[←g 8 (by decide)];exact h 8 _ rfl,by rw[←g 9 (by decide)];exact h 9 _ rfl,by rw[←g 10 (by decide)];exact h 10 _ rfl⟩
def RdI (w:World) (A:Option Addr) (n:Nat) (G:Nat→Ins):Prop:=∀ i,i<n→okN (G i).a∧∃ ad,A=some ad∧LieL w (ad.add (i * 11)) (cellsI (G i))
theorem LieL.below {w w':World} {a:Addr} {vs:List Value} (h:LieL w a vs) (hb:Below w.heap.size w w'):LieL w' a vs:=fun j u hu=>(hb.cell (World.block_lt_of_cell? w _ (h j u hu))).trans (h j u hu)
theorem RdI.below {w w':World} {A:Option Addr} {n:Nat} {G:Nat→Ins} (h:RdI w A n G) (hb:Below w.heap.size w w'):RdI w' A n G:=fun i hi=>by
 obtain⟨h0,ad,e,h1⟩:=h i hi;exact⟨h0,ad,e,h1.below hb⟩
def rowS (n:Nat) (F:Nat→ByteArray):Array Value:=((List.range n).map fun i=>Value.string (F i)).toArray
theorem rowS_size (n:Nat) (F:Nat→ByteArray):(rowS n F).size=n:=by simp[rowS]
theorem rowS_get {n i:Nat} {F:Nat→ByteArray} (h:i<n):(rowS n F)[i]?=some (.string (F i)):=by simp[rowS,h]
theorem rowS_ext {n:Nat} {F:Nat→ByteArray} {cs:Array Value} (hs:cs.size=n) (h:∀ i,i<n→cs[i]?=some (.string (F i))):cs=rowS n F:=by
 apply Array.ext_getElem?;intro i;by_cases hi:i<n
 ·rw[h i hi,rowS_get hi]
 ·rw[Array.getElem?_eq_none (by omega),Array.getElem?_eq_none (by rw[rowS_size];omega)]
theorem rowS_set {n i:Nat} {F:Nat→ByteArray} (v:ByteArray):(rowS n F).setIfInBounds i (.string v)=rowS n (fun k=>if k=i then v else F k):=by
 refine rowS_ext (by simp[rowS_size]) fun k hk=>?_
 rw[Array.getElem?_setIfInBounds];by_cases h:i=k
 ·subst h;simp[rowS_size,hk]
 ·rw[if_neg h,rowS_get hk,if_neg (fun e=>h e.symm)]
theorem rowS_same {n:Nat} {F G:Nat→ByteArray} (h:∀ i,i<n→F i=G i):rowS n F=rowS n G:=rowS_ext (rowS_size _ _) fun i hi=>by rw[rowS_get hi,h i hi]
theorem madeS (n:Nat):madeCells #[.string ⟨#[]⟩] n=rowS n (fun _=>⟨#[]⟩):=rowS_ext (by simp[madeCells]) fun i hi=>by simp[madeCells,hi,Nat.mod_one]
def SRow (w:World) (g n:Nat) (F:Nat→ByteArray):Prop:=w.heap[g]?=some (.cells (rowS n F) 9)
theorem SRow.lt {w:World} {g n:Nat} {F:Nat→ByteArray} (h:SRow w g n F):g<w.heap.size:=(Array.getElem?_eq_some_iff.mp h).1
theorem SRow.cell {w:World} {g n i:Nat} {F:Nat→ByteArray} (h:SRow w g n F) (hi:i<n):w.cell? ⟨g,i,none⟩=some (.string (F i)):=(cell_of_row _ _ i _ 9 (0,0) h).trans (rowS_get hi)
theorem SRow.free {w:World} {g n:Nat} {F:Nat→ByteArray} (h:SRow w g n F) (i:Nat):w.frozen? ⟨g,i,none⟩=false:=frozen_of_row _ _ i _ 9 h
theorem SRow.set {w:World} {g n:Nat} {F:Nat→ByteArray} (h:SRow w g n F) (i:Nat) (v:ByteArray):SRow (w.setCell ⟨g,i,none⟩ (.string v)) g n (fun k=>if k=i then v else F k):=by
 unfold SRow at h ⊢;rw[heap_setCell_same w g i _ 9 _ h,rowS_set]
theorem SRow.below {B:Nat} {w w':World} {g n:Nat} {F:Nat→ByteArray} (h:SRow w g n F) (hb:Below B w w') (hg:g<B):SRow w' g n F:=by
 unfold SRow at h ⊢;rw[hb.block g hg,h]
theorem SRow.same {w:World} {g n:Nat} {F G:Nat→ByteArray} (h:SRow w g n F) (e:∀ i,i<n→F i=G i):SRow w g n G:=by
 unfold SRow at h ⊢;rw[h,rowS_same e]
theorem SRow.made (w:World) (n:Nat):SRow (w.alloc (.cells (madeCells #[.string ⟨#[]⟩] n) 9)) w.heap.size n (fun _=>⟨#[]⟩):=by
 rw[madeS];unfold SRow;rw[heap_alloc_new]
theorem infoS:(Tryz.prog.info? 9).map (fun i=>(i.zero,i.size,i.bytes))=some (some (.string ⟨#[]⟩),1,16):=by kernel_rfl
def LinF (G:Nat→Ins) (i:Nat):ByteArray:=lineB i (G i).op (G i).a
def TextP (w:World) (n:Nat) (G:Nat→Ins) (e:Ending) (w':World):Prop:=∃ b,e= .returned (.slice (some ⟨b,0,none⟩) n n)∧Below w.heap.size w w'∧SRow w' b n (LinF G)
def TextI (w:World) (n:Nat) (G:Nat→Ins) (k:Nat) (wr:World):Prop:=Below w.heap.size w wr∧SRow wr (w.heap.size+1) n (fun i=>if i<k then LinF G i else ⟨#[]⟩)
theorem itoaB {n:Int} (h:okN n):(⟨(Lib.itoa n).toArray⟩:ByteArray).size≤21:=by
 show (Lib.itoa n).toArray.size≤21;rw[List.size_toArray];exact Lib.itoa_length_le n h.1 h.2
theorem itoa_any (n:Int) (h:okN n) (w:World) (hG:Given w):Calls Tryz.prog 29 #[.int .i64 n] w fun e w'=>e= .returned (.string ⟨(Lib.itoa n).toArray⟩)∧Below w.heap.size w w':=
 (Tryz.strconv_Itoa n h.1 h.2 w hG).mono fun e w' ⟨he,k,os,hw⟩=>⟨he,by rw[hw];exact below_grow w k os⟩
theorem TextI.step {w wr w1:World} {n k:Nat} {G:Nat→Ins} (h:TextI w n G k wr) (hb:Below wr.heap.size wr w1) (hk:k<n):TextI w n G (k+1) (w1.setCell ⟨w.heap.size+1,k,none⟩ (.string (LinF G k))):=by
 obtain⟨h1,h2⟩:=h;have hlt:=h2.lt;have h3:=(h2.below hb hlt).set k (LinF G k);refine⟨(h1.trans (hb.mono h1.size)).setCell (by show w.heap.size≤w.heap.size+1;omega) _,h3.same fun i hi=>?_⟩;show (if i=k then LinF G k else if i<k then LinF G i else ⟨#[]⟩)=if i<k+1 then LinF G i else ⟨#[]⟩
 by_cases e:i=k
 ·subst e;rw[if_pos rfl,if_pos (by omega)]
 ·rw[if_neg e]
  by_cases e2:i<k
  ·rw[if_pos e2,if_pos (by omega)]
  ·rw[if_neg e2,if_neg (by omega)]
theorem text_all (A B:Option Addr) (n c m d:Nat) (G:Nat→Ins) (hn:n≤1000000) (w:World) (hr:RdI w A n G) (hG:Given w) (hN:NamesAt w):
  Calls Tryz.prog 13 #[.agg #[.slice A n c,.slice B m d]] w (TextP w n G):=by
 have hmk:=run_make_row' (P:=Tryz.prog) 52 9 (.string ⟨#[]⟩) 16 Tryz.underlying52 infoS rfl .i64 .i64 n (by omega) (by omega);obtain⟨W0,hW0⟩:∃ W,W=w.alloc (.cells #[.slice A n c,.slice B m d] 28):=⟨_,rfl⟩;have h0:Below w.heap.size w W0:=by rw[hW0];exact(Below.refl _ _).alloc (Nat.le_refl _) _
 have hs0:W0.heap.size=w.heap.size+1:=by rw[hW0];simp
 have HST:Hid (TextI w n G 0 (W0.alloc (.cells (madeCells #[.string ⟨#[]⟩] n) 9))):=Lib.hid (by
  refine⟨h0.alloc (by omega) _,?_⟩;have:=SRow.made W0 n;rw[hs0] at this;exact this.same fun i hi=>by rw[if_neg (by omega)])
 rw[hW0] at HST;have HR:=Lib.hid hr;have HG:=Lib.hid hG;have HNA:=Lib.hid hN;clear hr hG hN hW0 h0 hs0;go_enter Tryz.func13,Tryz.ntmps13;go_wp2;clear hmk
 go_loopw [13] (fun i wr=>∃ k:Nat,k≤n∧i= .int .i64 k∧Hid (TextI w n G k wr)) (fun i _=>n - (intOf i).toNat)
 case atStart=>exact⟨0,by omega,rfl,HST⟩
 case round=>
  obtain⟨k,hk,rfl,HI⟩:=hrel;by_cases a:k<n
  ·obtain⟨hokb,ad,rfl,hl⟩:=(HR.out.below HI.out.1) k a
   have hstep:=fun w1=>HI.out.step (w1:=w1) (k:=k)
   have hfz:=fun w1 (hb:Below wr.heap.size wr w1)=>(HI.out.2.below hb HI.out.2.lt).free k
   have hcl:=fun w1 (hb:Below wr.heap.size wr w1)=>(HI.out.2.below hb HI.out.2.lt).cell (i:=k) a
   simp only[Nat.lt_irrefl,if_false] at hcl;have HLF:Hid (LinF G k=lineB k (G k).op (G k).a):=Lib.hid rfl;obtain⟨F,hF⟩:∃ F,F=LinF G k:=⟨_,rfl⟩;rw[←hF] at HLF hstep;clear hF;generalize G k=x at hokb hl HLF;obtain⟨op,z,nm,nn,p,pn,pc,ck,cn,cs,co,x,xn,xc,l,ln,lc⟩:=x;have hl:LieL wr (ad.add (k * 11)) [.int .i64 op,.int .i64 z,.string nm,.int .i64 nn,.slice p pn pc,.int .i64 ck,.int .i64 cn,.string cs,.string co,.slice x xn xc,.slice l ln lc]:=hl;obtain⟨c0,c1,c2,c3,c4,c5,c6,c7,c8,c9,c10⟩:=hl.at11;have hbt:(ad.add (k * 11)).block<wr.heap.size:=World.block_lt_of_cell? wr _ c0;obtain⟨S1,hS1⟩:∃ S:ByteArray,S=⟨(Lib.itoa k).toArray⟩:=⟨_,rfl⟩;obtain⟨S2,hS2⟩:∃ S:ByteArray,S=⟨(Lib.itoa z).toArray⟩:=⟨_,rfl⟩;obtain⟨S3,hS3⟩:∃ S:ByteArray,S=⟨(wordT op).toArray⟩:=⟨_,rfl⟩;have hok:okN (k:Int):=⟨by omega,by omega⟩;have hs1:S1.size≤21:=by rw[hS1];exact itoaB hok
   have hs2:S2.size≤21:=by rw[hS2];exact itoaB hokb
   have hs3:S3.size≤7:=by rw[hS3];show (wordT op).toArray.size≤7;rw[List.size_toArray];exact wordT_len op
   obtain⟨W,hW⟩:∃ W,W=wr.alloc (.cells #[.int .i64 op,.int .i64 z,.string nm,.int .i64 nn,.slice p pn pc,.int .i64 ck,.int .i64 cn,.string cs,.string co,.slice x xn xc,.slice l ln lc] 46):=⟨_,rfl⟩;have hbW:Below wr.heap.size wr W:=by rw[hW];exact(Below.refl _ _).alloc (Nat.le_refl _) _
   have hwW:Below w.heap.size w W:=HI.out.1.trans (hbW.mono HI.out.1.size);have HD0:Hid (W.cell? ⟨wr.heap.size,0,none⟩=some (.int .i64 op)):=Lib.hid (by rw[hW];simp[go_sem]);have HD1:Hid (W.cell? ⟨wr.heap.size,1,none⟩=some (.int .i64 z)):=Lib.hid (by rw[hW];simp[go_sem]);have HBW:=Lib.hid hbW;have KA:Hid (∀ w',Below W.heap.size W w'→Calls Tryz.prog 29 #[.int .i64 k] w' fun e w2=>e= .returned (.string S1)∧Below w'.heap.size w' w2):=Lib.hid fun w' hw=>by rw[hS1];exact itoa_any _ hok w' (HG.out.below (hwW.trans (hw.mono hwW.size)))
   have KC:Hid (∀ w',Below W.heap.size W w'→Calls Tryz.prog 29 #[.int .i64 z] w' fun e w2=>e= .returned (.string S2)∧Below w'.heap.size w' w2):=Lib.hid fun w' hw=>by rw[hS2];exact itoa_any _ hokb w' (HG.out.below (hwW.trans (hw.mono hwW.size)))
   have KN:Hid (∀ w',Below W.heap.size W w'→Calls Tryz.prog 30 #[.int .i64 op] w' fun e w2=>e= .returned (.string S3)∧w'=w2):=Lib.hid fun w' hw=>by rw[hS3];exact opname_any op w' (HNA.out.below (hwW.trans (hw.mono hwW.size)))
   have he:=lineB_eq (k:Int) op z;rw[←HLF.out,←hS1,←hS2,←hS3] at he;have HE:=Lib.hid he;have HST2:Hid (∀ w2,Below W.heap.size W w2→TextI w n G (k+1) (w2.setCell ⟨w.heap.size+1,k,none⟩ (.string F))):=Lib.hid fun w2 hw=>hstep w2 (hbW.trans (hw.mono hbW.size)) a
   have HFZ:Hid (∀ w2,Below W.heap.size W w2→w2.frozen? ⟨w.heap.size+1,k,none⟩=false):=Lib.hid fun w2 hw=>hfz w2 (hbW.trans (hw.mono hbW.size))
   have HCL:Hid (∀ w2,Below W.heap.size W w2→w2.cell? ⟨w.heap.size+1,k,none⟩=some (.string ⟨#[]⟩)):=Lib.hid fun w2 hw=>hcl w2 (hbW.trans (hw.mono hbW.size))
   have HWq:=Lib.hid hW;clear hstep hfz hcl HLF hl hokb hok hS1 hS2 hS3 hbW hwW he hW;go_wp2;rw[←HWq.out];have HBD:Hid (Below W.heap.size W W.drew):=Lib.hid (Below.refl _ _).drew;have hs0:=HD0.out;have hs9:=HD1.out;have hfd:=HFZ.out W.drew HBD.out;have HSS:Hid (∀ w2,Below W.heap.size W w2→w2.cell? ⟨wr.heap.size,0,none⟩=some (.int .i64 op)∧w2.cell? ⟨wr.heap.size,1,none⟩=some (.int .i64 z)):=Lib.hid fun w2 hw=>⟨(hw.cell (World.block_lt_of_cell? W _ HD0.out)).trans HD0.out,(hw.cell (World.block_lt_of_cell? W _ HD1.out)).trans HD1.out⟩
   have HS0:=Lib.hid (HSS.out W.drew HBD.out);have hne:=HI.out.2.lt
   have HS3:Hid (∀ w2 v,Below W.heap.size W w2→(w2.setCell ⟨w.heap.size+1,k,none⟩ v).cell? ⟨wr.heap.size,0,none⟩=some (.int .i64 op)∧(w2.setCell ⟨w.heap.size+1,k,none⟩ v).cell? ⟨wr.heap.size,1,none⟩=some (.int .i64 z)):=Lib.hid fun w2 v hw=>
    ⟨(World.cell?_setCell_other _ _ _ _ (by intro e;injection e with e;omega)).trans (HSS.out w2 hw).1,(World.cell?_setCell_other _ _ _ _ (by intro e;injection e with e;omega)).trans (HSS.out w2 hw).2⟩
   clear hne;clear hs0 hs9 hfd;have hq1:¬ 9223372036854775807<S1.size+1:=by omega
   have hq2:¬ 9223372036854775807<S1.size+1+S3.size:=by omega
   have hq3:¬ 9223372036854775807<S1.size+1+S3.size+1:=by omega
   have hq4:¬ 9223372036854775807<S1.size+1+S3.size+1+S2.size:=by omega
   go_region_held3 (fun w'=>w'.cell? ⟨wr.heap.size,0,none⟩=some (.int .i64 op)∧w'.cell? ⟨wr.heap.size,1,none⟩=some (.int .i64 z)) (first | with_reducible exact HS0.out | with_reducible exact HS1.out | with_reducible exact HS2.out | with_reducible exact HS3.out _ _ HB2.out) (first
    | (go_at_call 30;(first | ((with_reducible refine(KN.out _ HB2.out).mono ?_)) | ((with_reducible refine(KN.out _ HB1.out).mono ?_)) | ((with_reducible refine(KN.out _ HBD.out).mono ?_)));rintro _ _ ⟨rfl,rfl⟩)
    | (go_at_call 29;((with_reducible refine(KA.out _ HB1.out).mono ?_));rintro _ w2 ⟨rfl,hb2⟩;have HB2:=Lib.hid (HB1.out.trans (hb2.mono HB1.out.size));have HS2:=Lib.hid (HSS.out _ HB2.out);have hf2:=HFZ.out _ HB2.out;have hc2:=HCL.out _ HB2.out;clear hb2)
    | (go_at_call 29;((with_reducible refine(KC.out _ HB1.out).mono ?_));rintro _ w2 ⟨rfl,hb2⟩;have HB2:=Lib.hid (HB1.out.trans (hb2.mono HB1.out.size));have HS2:=Lib.hid (HSS.out _ HB2.out);have hf2:=HFZ.out _ HB2.out;have hc2:=HCL.out _ HB2.out;clear hb2)
    | (go_at_call 29;((with_reducible refine(KA.out _ HBD.out).mono ?_));rintro _ w1 ⟨rfl,hb1⟩;have HB1:=Lib.hid (HBD.out.trans (hb1.mono HBD.out.size));have HS1:=Lib.hid (HSS.out _ HB1.out);clear hb1)
    | (go_at_call 29;((with_reducible refine(KC.out _ HBD.out).mono ?_));rintro _ w1 ⟨rfl,hb1⟩;have HB1:=Lib.hid (HBD.out.trans (hb1.mono HBD.out.size));have HS1:=Lib.hid (HSS.out _ HB1.out);clear hb1)
    | fail)
   all_goals
    have HX:=Lib.hid (HST2.out _ HB2.out);rw[HE.out];clear c0 c1 c2 c3 c4 c5 c6 c7 c8 c9 c10 hq1 hq2 hq3 hq4 hs1 hs2 hs3;go_wp2
    go_roundw
    case rel=>exact⟨k+1,by omega,by go_num,HX⟩
    case measure=>simp[intOf];omega
  ·obtain rfl:k=n:=by omega
   have HP:Hid (Below w.heap.size w wr∧SRow wr (w.heap.size+1) k (LinF G)):=Lib.hid ⟨HI.out.1,HI.out.2.same fun i hi=>by rw[if_pos hi]⟩;go_wp2;go_ret;exact⟨_,rfl,HP.out⟩
end Go.Proofs.YtfgcdppebeojbaaGreatDoor
