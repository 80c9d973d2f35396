import Derived.Deep.DeepMust
import Derived.Test.YtdobinjbejagcaaGreatDoorPq6
import Derived.Test.YtdobinjbejagcaaGreatDoorPm7
import Derived.Test.YtdobinjbejagcaaGreatDoorNRPrint
import Derived.Test.YtdobinjbejagcaaGreatDoorPlainC
import Derived.Test.YtdobinjbejagcaaGreatDoorPm6
import Derived.Test.YtdobinjbejagcaaGreatDoorPe6
namespace Go.Proofs.YtdobinjbejagcaaGreatDoor
open Go Go.RowKit
set_option maxRecDepth 100000
set_option maxHeartbeats 4000000
abbrev aggPe (p:PeP) (A:Option Addr) (c:Nat):Value:= .agg #[.int .i64 p.cap,.slice A p.places.length c]
def PostPc (w:World) (R:OutP) (e:Ending) (w':World):Prop:=∃ (A:Option Addr) (m c:Nat),e= .returned (.tuple #[.agg #[.int .i64 (peO R).cap,.slice A m c],.int .i64 R.2.1,.int .i64 R.2.2])∧RdX w'.heap.size w' A m (peO R).places∧Below w.heap.size w w'∧m≤c
abbrev ParK:Prop:=∀ (S:ByteArray) (w:World),S.size≤2000→Given w→Calls Tryz.prog 12 #[.string S] w (PostPc w (parsePe S.data.toList))
abbrev PriK:Prop:=∀ (p:PeP) (A:Option Addr) (c:Nat) (w:World),RdX w.heap.size w A p.places.length p.places→p.places.length≤c→smallPe p=true→Given w→Calls Tryz.prog 8 #[aggPe p A c] w fun r w'=>r= .returned (.tuple #[.string ⟨(outText p).toArray⟩,.int .i64 (errPe p)])∧Below w.heap.size w w'
abbrev MayK:Prop:=∀ (p:PeP) (A:Option Addr) (c:Nat) (w:World),RdX w.heap.size w A p.places.length p.places→p.places.length≤c→FitPe p→Given w→Calls Tryz.prog 10 #[aggPe p A c] w fun r w'=>r= .returned (.bool (mayPe p))∧Below w.heap.size w w'
abbrev SamK:Prop:=∀ (p q:PeP) (A B:Option Addr) (c d:Nat) (w:World),RdX w.heap.size w A p.places.length p.places→RdX w.heap.size w B q.places.length q.places→FitPe p→FitPe q→Calls Tryz.prog 15 #[aggPe p A c,aggPe q B d] w fun r w'=>r= .returned (.bool (eqPe p q))∧Below w.heap.size w w'
abbrev awS1:ByteArray:=⟨#[99,97,112,32,56,32,97,116,32,97,32,123,32,101,109,105,116,32,34,104,105,34,32,97,102,116,101,114,32,48,32,50,32,103,111,116,111,32,98,32,125,32,97,116,32,98,32,101,99,104,111,32,123,32,108,105,110,101,32,34,120,42,34,32,103,111,116,111,32,97,32,115,104,117,116,32,97,102,116,101,114,32,49,32,101,118,101,114,32,125]⟩
abbrev awS2:ByteArray:=⟨#[99,97,112,32,56,32,97,116,32,97,32,123,32,108,105,110,101,32,34,34,32,103,111,116,111,32,99,32,125]⟩
def awP:PeP:=⟨8,[⟨[97],false,[⟨1,[104,105],0,2,1⟩]⟩,⟨[98],true,[⟨2,[120,42],0,0,0⟩,⟨3,[],1, -1,0⟩]⟩]⟩
theorem aw_parse1:parsePe awS1.data.toList=(some awP,0,0):=by kernel_rfl
theorem aw_parse2:parsePe awS2.data.toList=(none,26,6):=by kernel_rfl
theorem aw_text:(⟨(outText awP).toArray⟩:ByteArray)=awS1:=by kernel_rfl
theorem aw_err:errPe awP=0:=by kernel_rfl
theorem aw_small:smallPe awP=true:=by kernel_rfl
theorem aw_same:eqPe awP awP=true:=by kernel_rfl
theorem aw_fit:FitPe awP:=smallPe_fit aw_small
theorem aw_toList:(awS1.toList==awS1.toList)=true:=by simp
theorem aw_row {B:Nat} {W:World} {A:Option Addr} (h:RdX B W A 2 awP.places):∃ ad ad2 c2,A=some ad∧W.cell? ⟨ad.block,ad.off+5,none⟩=some (.slice (some ad2) 2 c2)∧W.cell? ⟨ad2.block,ad2.off+8,none⟩=some (.int .i64 (-1)):=by
 obtain⟨ad,A',c',e1, -,⟨-, -,h2⟩,hr⟩:=h.at_ (k:=1) (x:=⟨[98],true,[⟨2,[120,42],0,0,0⟩,⟨3,[],1, -1,0⟩]⟩) rfl
 obtain⟨ad2,e2, -,⟨-, -, -,h3, -⟩⟩:=hr.at_ (k:=1) (e:=⟨3,[],1, -1,0⟩) rfl
 subst e2;refine⟨ad,ad2,c',e1,?_,?_⟩
 ·simpa[Addr.add] using h2
 ·simpa[Addr.add] using h3
theorem awakeP_any (KP:ParK) (KR:PriK) (KS:SamK) (w:World) (hG:Given w):Calls Tryz.prog 6 #[] w fun r w'=>r= .returned (.bool true)∧Below w.heap.size w w':=by
 have HG:=Lib.hid hG
 have K1:Hid (∀ w',Below w.heap.size w w'→Calls Tryz.prog 12 #[.string awS1] w' fun e w2=>∃ A c,e= .returned (.tuple #[.agg #[.int .i64 8,.slice A 2 c],.int .i64 0,.int .i64 0])∧RdX w2.heap.size w2 A 2 awP.places∧Below w'.heap.size w' w2∧2≤c):=Lib.hid fun w' hb=>by
  have:=KP awS1 w' (by decide) (HG.out.below hb);rw[aw_parse1] at this
  exact this.mono fun e w2 ⟨A,m,c,h1,h2,h3,h4⟩=>by
   have hm:m=2:=h2.1;subst hm;exact⟨A,c,h1,h2,h3,h4⟩
 have K2:Hid (∀ w',Below w.heap.size w w'→Calls Tryz.prog 12 #[.string awS2] w' fun e w2=>∃ A c,e= .returned (.tuple #[.agg #[.int .i64 0,.slice A 0 c],.int .i64 26,.int .i64 6])∧Below w'.heap.size w' w2):=Lib.hid fun w' hb=>by
  have:=KP awS2 w' (by decide) (HG.out.below hb);rw[aw_parse2] at this
  exact this.mono fun e w2 ⟨A,m,c,h1,h2,h3,_⟩=>by
   have hm:m=0:=h2.1;subst hm;exact⟨A,c,h1,h3⟩
 have K3:Hid (∀ A c w',Below w.heap.size w w'→2≤c→RdX w'.heap.size w' A 2 awP.places→Calls Tryz.prog 8 #[.agg #[.int .i64 8,.slice A 2 c]] w' fun r w2=>r= .returned (.tuple #[.string awS1,.int .i64 0])∧Below w'.heap.size w' w2):=Lib.hid fun A c w' hb hc h=>by
  have:=KR awP A c w' h hc aw_small (HG.out.below hb);rw[aw_text,aw_err] at this;exact this
 have K4:Hid (∀ A c w',RdX w'.heap.size w' A 2 awP.places→Calls Tryz.prog 15 #[.agg #[.int .i64 8,.slice A 2 c],.agg #[.int .i64 8,.slice A 2 c]] w' fun r w2=>r= .returned (.bool true)∧Below w'.heap.size w' w2):=Lib.hid fun A c w' h=>by
  have:=KS awP awP A A c c w' h h aw_fit aw_fit;rw[aw_same] at this;exact this
 have hb0:=aw_toList;clear hG;go_enter Tryz.func6,Tryz.ntmps6
 go_wp2_with (first
  | (go_at_call 12;((with_reducible refine(K2.out _ HB2.out).mono ?_);rintro e w3 ⟨A3,c3,rfl,hb⟩;have HR3:=Lib.hid (HR2.out.next (hb.trans ((one_boxP w3 (.cells #[.int .i64 0,.slice A3 0 c3] 24)).mono hb.size)));have HB3:=Lib.hid (HB2.out.trans ((hb.trans ((one_boxP w3 (.cells #[.int .i64 0,.slice A3 0 c3] 24)).mono hb.size)).mono HB2.out.size));have HX3:=Lib.hid (HX2.out.low (by simp) (hb.trans ((one_boxP w3 (.cells #[.int .i64 0,.slice A3 0 c3] 24)).mono hb.size)));obtain⟨ad,ad2,c9,hA,hz1,hz2⟩:=aw_row HR3.out;subst hA;clear x0 x1;obtain⟨x0,x1⟩:=HX3.out.all2;clear hb))
  | (go_at_call 12;((with_reducible refine(K1.out _ (Below.refl _ _)).mono ?_);rintro e w1 ⟨A1,c1,rfl,hr,hb,hc⟩;have HC1:=Lib.hid hc;clear hc;have HR1:=Lib.hid (hr.next (one_boxP w1 (.cells #[.int .i64 8,.slice A1 2 c1] 24)));have HB1:=Lib.hid (hb.trans ((one_boxP w1 (.cells #[.int .i64 8,.slice A1 2 c1] 24)).mono hb.size));have HX1:=Lib.hid (BoxP.new w1 24 [.int .i64 8,.slice A1 2 c1]);clear hr hb))
  | (go_at_call 8;((with_reducible refine(K3.out _ _ _ HB1.out HC1.out HR1.out).mono ?_);rintro e w2 ⟨rfl,hb⟩;have HR2:=Lib.hid (HR1.out.next hb);have HB2:=Lib.hid (HB1.out.trans (hb.mono HB1.out.size));have HX2:=Lib.hid (HX1.out.low (by simp) hb);obtain⟨x0,x1⟩:=HX2.out.all2;clear hb))
  | (go_at_call 15;((with_reducible refine(K4.out _ _ _ HR3.out).mono ?_);rintro e w4 ⟨rfl,hb⟩;have HB4:=Lib.hid (HB3.out.trans (hb.mono HB3.out.size));clear hb)))
 go_ret;exact⟨rfl,HB4.out⟩
section
abbrev peO2 (p:PeP) (A:Option Addr) (c:Nat):Obj:= .cells #[.int .i64 p.cap,.slice A p.places.length c] 24
abbrev peL (p:PeP) (A:Option Addr) (c:Nat):List Value:=[.int .i64 p.cap,.slice A p.places.length c]
theorem bstepP {a b c:World} (h:Below a.heap.size a b) (k:Below b.heap.size b c):Below a.heap.size a c:=h.trans (k.mono h.size)
theorem rsameP (p q:PeP) (A B:Option Addr) (c d:Nat) (w:World) (h:RdX w.heap.size w A p.places.length p.places) (h':RdX w.heap.size w B q.places.length q.places) (hp:FitPe p) (hq:FitPe q):Calls Tryz.prog 13 #[aggPe p A c,aggPe q B d] w fun r w'=>r= .returned (.bool (eqPe p q))∧Below w.heap.size w w':=
 psame_any p q A B _ _ c d w h h' hp.places hq.places hp.edges hq.edges
section
variable (p q:PeP) (A B:Option Addr) (c d:Nat) (w:World)
theorem samesP_no1 (KA:∀ w',Below w.heap.size w w'→Calls Tryz.prog 6 #[] w' fun r w2=>r= .returned (.bool true)∧Below w'.heap.size w' w2) (h:RdX w.heap.size w A p.places.length p.places) (hs:smallPe p=false):
  Calls Tryz.prog 5 #[aggPe p A c,aggPe q B d] w fun r w'=>r= .returned (.bool true)∧Below w.heap.size w w':=by
 have HK:=Lib.hid KA;obtain⟨W0,hW0⟩:∃ W0,W0=(w.alloc (peO2 p A c)).alloc (peO2 q B d):=⟨_,rfl⟩;have hb0:Below w.heap.size w W0:=by rw[hW0];exact bstepP (one_boxP w _) (one_boxP _ _)
 have HB0:=Lib.hid hb0;have HX0:Hid (BoxP W0 w.heap.size (peL p A c)):=Lib.hid (by rw[hW0];exact(BoxP.new w 24 (peL p A c)).low (by simp) (one_boxP _ _))
 have K1:Hid (∀ W,Below w.heap.size w W→Calls Tryz.prog 7 #[aggPe p A c] W fun r w'=>r= .returned (.bool false)∧Below W.heap.size W w'):=Lib.hid fun W hb=>by
  have:=psmall13_any p A p.places.length c W (h.next hb);rw[hs] at this;exact this
 clear KA h hs hb0;go_enter Tryz.func5,Tryz.ntmps5
 go_upto_region 1 with fail
 rw[←hW0];clear hW0
 go_wp2_with (first
  | (go_at_call 6;go_must ((with_reducible refine(HK.out _ HB0.out).mono ?_);rintro _ w1 ⟨rfl,hb⟩;have HB1:=Lib.hid (bstepP HB0.out hb);have HX1:=Lib.hid (HX0.out.low (by simp) hb);obtain⟨x0,x1⟩:=HX1.out.all2;clear hb))
  | (go_at_call 7;go_must ((with_reducible refine(K1.out _ HB1.out).mono ?_);rintro _ w2 ⟨rfl,hb⟩;have HB2:=Lib.hid (bstepP HB1.out hb);clear hb)))
 go_ret;exact⟨rfl,HB2.out⟩
theorem samesP_yes (KS:SamK) (KA:∀ w',Below w.heap.size w w'→Calls Tryz.prog 6 #[] w' fun r w2=>r= .returned (.bool true)∧Below w'.heap.size w' w2) (h:RdX w.heap.size w A p.places.length p.places) (h':RdX w.heap.size w B q.places.length q.places) (hs:smallPe p=true) (b:Bool) (hq:smallPe q=b):
  Calls Tryz.prog 5 #[aggPe p A c,aggPe q B d] w fun r w'=>r= .returned (.bool true)∧Below w.heap.size w w':=by
 have HK:=Lib.hid KA;obtain⟨W0,hW0⟩:∃ W0,W0=(w.alloc (peO2 p A c)).alloc (peO2 q B d):=⟨_,rfl⟩;have hb0:Below w.heap.size w W0:=by rw[hW0];exact bstepP (one_boxP w _) (one_boxP _ _)
 have HB0:=Lib.hid hb0;obtain⟨qb,hqb⟩:∃ qb,qb=w.heap.size+1:=⟨_,rfl⟩;have hsz:(w.alloc (peO2 p A c)).heap.size=w.heap.size+1:=by simp
 have HX0:Hid (BoxP W0 w.heap.size (peL p A c)):=Lib.hid (by rw[hW0];exact(BoxP.new w 24 (peL p A c)).low (by simp) (one_boxP _ _));have HY0:Hid (BoxP W0 qb (peL q B d)):=Lib.hid (by rw[hW0,hqb,←hsz];exact BoxP.new _ 24 (peL q B d))
 have K1:Hid (∀ W,Below w.heap.size w W→Calls Tryz.prog 7 #[aggPe p A c] W fun r w'=>r= .returned (.bool true)∧Below W.heap.size W w'):=Lib.hid fun W hb=>by
  have:=psmall13_any p A p.places.length c W (h.next hb);rw[hs] at this;exact this
 have K2:Hid (∀ W,Below w.heap.size w W→Calls Tryz.prog 7 #[aggPe q B d] W fun r w'=>r= .returned (.bool b)∧Below W.heap.size W w'):=Lib.hid fun W hb=>by
  have:=psmall13_any q B q.places.length d W (h'.next hb);rw[hq] at this;exact this
 cases b with
 | false=>
   clear KA h h' hs hq hb0 KS hsz;go_enter Tryz.func5,Tryz.ntmps5
   go_upto_region 1 with fail
   rw[←hW0,←hqb];clear hW0 hqb
   go_wp2_with (first
    | (go_at_call 6;go_must ((with_reducible refine(HK.out _ HB0.out).mono ?_);rintro _ w1 ⟨rfl,hb⟩;have HB1:=Lib.hid (bstepP HB0.out hb);have HX1:=Lib.hid (HX0.out.low (by simp) hb);have HY1:=Lib.hid (HY0.out.low (by simp) hb);obtain⟨x0,x1⟩:=HX1.out.all2;obtain⟨y0,y1⟩:=HY1.out.all2;clear hb))
    | (go_at_call 7;((with_reducible refine(K1.out _ HB1.out).mono ?_);rintro _ w2 ⟨rfl,hb⟩;have HB2:=Lib.hid (bstepP HB1.out hb);have HY2:=Lib.hid (HY1.out.low (by simp) hb);clear y0 y1;obtain⟨y0,y1⟩:=HY2.out.all2;clear hb K1))
    | (go_at_call 7;((with_reducible refine(K2.out _ HB2.out).mono ?_);rintro _ w3 ⟨rfl,hb⟩;have HB3:=Lib.hid (bstepP HB2.out hb);clear hb)))
   go_ret;exact⟨rfl,HB3.out⟩
 | true=>
   have K5:Hid (∀ W,Below w.heap.size w W→Calls Tryz.prog 15 #[aggPe p A c,aggPe q B d] W fun r w'=>r= .returned (.bool (eqPe p q))∧Below W.heap.size W w'):=Lib.hid fun W hb=>KS p q A B c d W (h.next hb) (h'.next hb) (smallPe_fit hs) (smallPe_fit hq)
   have K6:Hid (∀ W,Below w.heap.size w W→Calls Tryz.prog 13 #[aggPe p A c,aggPe q B d] W fun r w'=>r= .returned (.bool (eqPe p q))∧Below W.heap.size W w'):=Lib.hid fun W hb=>rsameP p q A B c d W (h.next hb) (h'.next hb) (smallPe_fit hs) (smallPe_fit hq)
   have K7:Hid (∀ W,Below w.heap.size w W→Calls Tryz.prog 15 #[aggPe q B d,aggPe q B d] W fun r w'=>r= .returned (.bool true)∧Below W.heap.size W w'):=Lib.hid fun W hb=>by
    have:=KS q q B B d d W (h'.next hb) (h'.next hb) (smallPe_fit hq) (smallPe_fit hq);rw[eqPe_self] at this;exact this
   obtain⟨v,hv⟩:∃ v,v=eqPe p q:=⟨_,rfl⟩;rw[←hv] at K5 K6;have hvv:(v==v)=true:=by simp
   clear KA h h' hs hq hb0 KS hsz hv;go_enter Tryz.func5,Tryz.ntmps5
   go_upto_region 1 with fail
   rw[←hW0,←hqb];clear hW0 hqb
   go_upto_region 5 with (first
    | (go_at_call 6;go_must ((with_reducible refine(HK.out _ HB0.out).mono ?_);rintro _ w1 ⟨rfl,hb⟩;have HB1:=Lib.hid (bstepP HB0.out hb);have HX1:=Lib.hid (HX0.out.low (by simp) hb);have HY1:=Lib.hid (HY0.out.low (by simp) hb);obtain⟨x0,x1⟩:=HX1.out.all2;obtain⟨y0,y1⟩:=HY1.out.all2;clear hb))
    | (go_at_call 7;((with_reducible refine(K1.out _ HB1.out).mono ?_);rintro _ w2 ⟨rfl,hb⟩;have HB2:=Lib.hid (bstepP HB1.out hb);have HX2:=Lib.hid (HX1.out.low (by simp) hb);have HY2:=Lib.hid (HY1.out.low (by simp) hb);clear y0 y1 x0 x1;obtain⟨x0,x1⟩:=HX2.out.all2;obtain⟨y0,y1⟩:=HY2.out.all2;clear hb K1))
    | (go_at_call 7;((with_reducible refine(K2.out _ HB2.out).mono ?_);rintro _ w3 ⟨rfl,hb⟩;have HB3:=Lib.hid (bstepP HB2.out hb);have HX3:=Lib.hid (HX2.out.low (by simp) hb);have HY3:=Lib.hid (HY2.out.low (by simp) hb);clear y0 y1 x0 x1;obtain⟨x0,x1⟩:=HX3.out.all2;obtain⟨y0,y1⟩:=HY3.out.all2;clear hb)))
   have p0:=bw_cell x0;have p1:=bw_cell x1;have q0:=bw_cell y0;have q1:=bw_cell y1;have hne:=bw_some w3;refine wp_region_below (by kernel_rfl) (by kernel_rfl) ?_
   repeat (go_big_quiet_step ((first
    | (go_at_call 15;with_reducible exact bw_calls (K5.out _ (bstepP HB3.out (Subtype.property _))))
    | (go_at_call 13;with_reducible exact bw_calls (K6.out _ (bstepP HB3.out (Subtype.property _))))
    | (go_at_call 15;with_reducible exact bw_calls (K7.out _ (bstepP HB3.out (Subtype.property _)))))))
   refine wpQuiet_nil ?_;intro w8 hw8;obtain⟨m8,rfl⟩:=hw8;have HB4:Hid (Below w.heap.size w m8.at):=Lib.hid (bstepP HB3.out m8.2);go_wp2;go_ret;exact⟨rfl,HB4.out⟩
end
end
section
abbrev ParD:Prop:=∀ (S:ByteArray) (w:World),S.size≤2000→Calls Tryz.prog 14 #[.string S] w (PostPe w (parsePe S.data.toList))
abbrev PriD:Prop:=∀ (p:PeP) (A:Option Addr) (c:Nat) (w:World),RdX w.heap.size w A p.places.length p.places→smallPe p=true→Calls Tryz.prog 9 #[aggPe p A c] w fun r w'=>r= .returned (.tuple #[.string ⟨(outText p).toArray⟩,.int .i64 (errPe p)])∧Below w.heap.size w w'
theorem fitPe_zero:FitPe ⟨0,[]⟩:=⟨by decide,(by intro x hx;cases hx),(by intro x hx;cases hx),(by intro x hx;cases hx)⟩
section
variable (S:ByteArray) (w:World)
theorem anyP_long (KA:∀ w',Below w.heap.size w w'→Calls Tryz.prog 6 #[] w' fun r w2=>r= .returned (.bool true)∧Below w'.heap.size w' w2) (hs:300<S.size):
  Calls Tryz.prog 4 #[.string S] w fun r w'=>r= .returned (.bool true)∧Below w.heap.size w w':=by
 have HK:=Lib.hid KA;have hs2:(300:Int)<S.size:=by omega
 clear KA;go_enter Tryz.func4,Tryz.ntmps4;go_wp2_with (go_at_call 6;go_must ((with_reducible refine(HK.out _ (Below.refl _ _)).mono ?_);rintro _ w1 ⟨rfl,hb⟩;have HB1:=Lib.hid hb;clear hb));go_ret;exact⟨rfl,HB1.out⟩
theorem anyP_short (KP:ParK) (KD:ParD) (KM:MayK) (hG:Given w) (hF:∀ p,parsePe S.data.toList=(some p,0,0)→FitPe p) (KA:∀ w',Below w.heap.size w w'→Calls Tryz.prog 6 #[] w' fun r w2=>r= .returned (.bool true)∧Below w'.heap.size w' w2) (hs:S.size≤300):
  Calls Tryz.prog 4 #[.string S] w fun r w'=>r= .returned (.bool true)∧Below w.heap.size w w':=by
 have HK:=Lib.hid KA;have HG:=Lib.hid hG;have hs2:¬ (300:Int)<S.size:=by omega
 obtain⟨R,hR⟩:∃ R,parsePe S.data.toList=R:=⟨_,rfl⟩;obtain⟨p,hp⟩:∃ p,p=peO R:=⟨_,rfl⟩;obtain⟨x,hx⟩:∃ x,x=R.2.1:=⟨_,rfl⟩;obtain⟨z,hz⟩:∃ x,x=R.2.2:=⟨_,rfl⟩
 have hfit:FitPe p:=by
  obtain⟨o,a,b⟩:=R
  cases o with
  | none=>rw[hp];exact fitPe_zero
  | some q=>
    obtain⟨rfl,rfl⟩:=parse_some hR;rw[hp];exact hF q hR
 have hmay:z=0→mayPe p=true:=fun h0=>by
  obtain⟨o,a,b⟩:=R
  cases o with
  | none=>exact absurd (by rw[←h0,hz]) (parse_none hR)
  | some q=>rw[hp];exact parse_mayPe hR
 have K1:Hid (∀ w',Below w.heap.size w w'→Calls Tryz.prog 12 #[.string S] w' fun e w2=>∃ A c,e= .returned (.tuple #[aggPe p A c,.int .i64 x,.int .i64 z])∧RdX w2.heap.size w2 A p.places.length p.places∧Below w'.heap.size w' w2∧p.places.length≤c):=Lib.hid fun w' hb=>by
  have:=KP S w' (by omega) (HG.out.below hb);rw[hR] at this
  exact this.mono fun e w2 ⟨A,m,c,h1,h2,h3,h4⟩=>by
   rw[←hp,←hx,←hz] at h1;rw[←hp] at h2;have hm:m=p.places.length:=h2.1;subst hm;exact⟨A,c,h1,h2,h3,h4⟩
 have K2:Hid (∀ w',Calls Tryz.prog 14 #[.string S] w' fun e w2=>∃ A c,e= .returned (.tuple #[aggPe p A c,.int .i64 x,.int .i64 z])∧RdX w2.heap.size w2 A p.places.length p.places∧Below w'.heap.size w' w2):=Lib.hid fun w'=>by
  have:=KD S w' (by omega);rw[hR] at this
  exact this.mono fun e w2 ⟨A,m,c,h1,h2,h3⟩=>by
   rw[←hp,←hx,←hz] at h1;rw[←hp] at h2;have hm:m=p.places.length:=h2.1;subst hm;exact⟨A,c,h1,h2,h3⟩
 have K3:Hid (∀ A B c d W,RdX W.heap.size W A p.places.length p.places→RdX W.heap.size W B p.places.length p.places→Calls Tryz.prog 13 #[aggPe p A c,aggPe p B d] W fun r w'=>r= .returned (.bool true)∧Below W.heap.size W w'):=Lib.hid fun A B c d W h1 h2=>by
  have:=rsameP p p A B c d W h1 h2 hfit hfit;rw[eqPe_self] at this;exact this
 have HF:=Lib.hid hfit;have b1:(x==x)=true:=by simp
 have b2:(z==z)=true:=by simp
 by_cases hz0:z=0
 ·have K4:Hid (∀ A c W,p.places.length≤c→RdX W.heap.size W A p.places.length p.places→Below w.heap.size w W→Calls Tryz.prog 10 #[aggPe p A c] W fun r w'=>r= .returned (.bool true)∧Below W.heap.size W w'):=Lib.hid fun A c W hc h1 h2=>by
   have:=KM p A c W h1 hc HF.out (HG.out.below h2);rw[hmay hz0] at this;exact this
  have b3:(z != 0)=false:=by simp[hz0]
  obtain⟨cap,hcap⟩:∃ cap,cap=p.cap:=⟨_,rfl⟩;obtain⟨ln,hln⟩:∃ ln,ln=p.places.length:=⟨_,rfl⟩;unfold aggPe at K1 K2 K3 K4;rw[←hcap,←hln] at K1 K2 K3 K4;clear KA hG hR hp hx hz hfit hmay hz0 hF KP KD KM hcap hln;go_enter Tryz.func4,Tryz.ntmps4
  go_wp2_with (first
   | (go_at_call 6;go_must ((with_reducible refine(HK.out _ (Below.refl _ _)).mono ?_);rintro _ w1 ⟨rfl,hb⟩;have HB1:=Lib.hid hb;clear hb))
   | (go_at_call 12;go_must ((with_reducible refine(K1.out _ HB1.out).mono ?_);rintro e w2 ⟨A2,c2,rfl,hr,hb,hc⟩;have HC2:=Lib.hid hc;clear hc;have HR2:=Lib.hid (hr.next (one_boxP w2 (.cells #[.int .i64 cap,.slice A2 ln c2] 24)));have HB2:=Lib.hid (bstepP HB1.out (bstepP hb (one_boxP w2 (.cells #[.int .i64 cap,.slice A2 ln c2] 24))));have HX2:=Lib.hid (BoxP.new w2 24 [.int .i64 cap,.slice A2 ln c2]);clear hr hb))
   | (go_at_call 14;go_must ((with_reducible refine(K2.out _).mono ?_);rintro e w3 ⟨A3,c3,rfl,hr,hb⟩;have HQ3:=Lib.hid (hr.next (one_boxP w3 (.cells #[.int .i64 cap,.slice A3 ln c3] 24)));have HR3:=Lib.hid (HR2.out.next (bstepP hb (one_boxP w3 (.cells #[.int .i64 cap,.slice A3 ln c3] 24))));have HB3:=Lib.hid (bstepP HB2.out (bstepP hb (one_boxP w3 (.cells #[.int .i64 cap,.slice A3 ln c3] 24))));have HX3:=Lib.hid (HX2.out.low (by simp) (bstepP hb (one_boxP w3 (.cells #[.int .i64 cap,.slice A3 ln c3] 24))));obtain⟨x0,x1⟩:=HX3.out.all2;clear hr hb))
   | (go_at_call 13;go_must ((with_reducible refine(K3.out _ _ _ _ _ HR3.out HQ3.out).mono ?_);rintro e w4 ⟨rfl,hb⟩;have HR4:=Lib.hid (HR3.out.next hb);have HB4:=Lib.hid (bstepP HB3.out hb);have HX4:=Lib.hid (HX3.out.low (by simp) hb);clear x0 x1;obtain⟨x0,x1⟩:=HX4.out.all2;clear hb))
   | (go_at_call 10;go_must ((with_reducible refine(K4.out _ _ _ HC2.out HR4.out HB4.out).mono ?_);rintro e w5 ⟨rfl,hb⟩;have HB5:=Lib.hid (bstepP HB4.out hb);clear hb)))
  go_ret;exact⟨rfl,HB5.out⟩
 ·have b3:(z != 0)=true:=by simpa using hz0
  obtain⟨cap,hcap⟩:∃ cap,cap=p.cap:=⟨_,rfl⟩;obtain⟨ln,hln⟩:∃ ln,ln=p.places.length:=⟨_,rfl⟩;unfold aggPe at K1 K2 K3;rw[←hcap,←hln] at K1 K2 K3;clear KA hG hR hp hx hz hfit hmay hz0 hF KP KD KM hcap hln;go_enter Tryz.func4,Tryz.ntmps4
  go_wp2_with (first
   | (go_at_call 6;go_must ((with_reducible refine(HK.out _ (Below.refl _ _)).mono ?_);rintro _ w1 ⟨rfl,hb⟩;have HB1:=Lib.hid hb;clear hb))
   | (go_at_call 12;go_must ((with_reducible refine(K1.out _ HB1.out).mono ?_);rintro e w2 ⟨A2,c2,rfl,hr,hb,hc⟩;have HC2:=Lib.hid hc;clear hc;have HR2:=Lib.hid (hr.next (one_boxP w2 (.cells #[.int .i64 cap,.slice A2 ln c2] 24)));have HB2:=Lib.hid (bstepP HB1.out (bstepP hb (one_boxP w2 (.cells #[.int .i64 cap,.slice A2 ln c2] 24))));have HX2:=Lib.hid (BoxP.new w2 24 [.int .i64 cap,.slice A2 ln c2]);clear hr hb))
   | (go_at_call 14;go_must ((with_reducible refine(K2.out _).mono ?_);rintro e w3 ⟨A3,c3,rfl,hr,hb⟩;have HQ3:=Lib.hid (hr.next (one_boxP w3 (.cells #[.int .i64 cap,.slice A3 ln c3] 24)));have HR3:=Lib.hid (HR2.out.next (bstepP hb (one_boxP w3 (.cells #[.int .i64 cap,.slice A3 ln c3] 24))));have HB3:=Lib.hid (bstepP HB2.out (bstepP hb (one_boxP w3 (.cells #[.int .i64 cap,.slice A3 ln c3] 24))));have HX3:=Lib.hid (HX2.out.low (by simp) (bstepP hb (one_boxP w3 (.cells #[.int .i64 cap,.slice A3 ln c3] 24))));obtain⟨x0,x1⟩:=HX3.out.all2;clear hr hb))
   | (go_at_call 13;go_must ((with_reducible refine(K3.out _ _ _ _ _ HR3.out HQ3.out).mono ?_);rintro e w4 ⟨rfl,hb⟩;have HB4:=Lib.hid (bstepP HB3.out hb);clear hb)))
  go_ret;exact⟨rfl,HB4.out⟩
end
end
section
theorem isName_len {w:Bs} (h:isName w=true):w.length≤8:=by
 unfold isName at h;rw[Bool.and_eq_true] at h;have h:=of_decide_eq_true h.2
 cases w with
 | nil=>simp
 | cons c r=>
   rw[nameLen_cons] at h;by_cases hd:isDig c=true
   ·rw[if_pos hd] at h;rw[List.length_cons] at h ⊢;omega
   ·rw[if_neg hd] at h
    by_cases hc:isLow c=true
    ·rw[if_pos hc,List.length_cons] at h
     have h7:=(tk_le 7 r).2;rw[List.length_cons];omega
    ·rw[if_neg hc,List.length_cons] at h;omega
theorem mayPe_fit {p:PeP} (h:mayPe p=true):FitPe p:=by
 unfold mayPe at h;simp only[Bool.and_eq_true,decide_eq_true_eq,List.all_eq_true] at h;obtain⟨⟨c1,c2⟩,⟨c3,c4⟩,hP, -⟩:=h
 have hx:∀ x∈p.places,x.name.length≤8∧x.edges.length≤8∧∀ e∈x.edges,e.text.length≤200:=fun x hx=>by
  have:=hP x hx;unfold mayPl at this;simp only[Bool.and_eq_true,decide_eq_true_eq,List.all_eq_true] at this;refine⟨isName_len this.1,this.2.2.1,fun e he=>?_⟩;have:=this.2.2.2 e he;unfold mayEd at this;by_cases k1:e.kind=1
  ·rw[if_pos k1] at this
   simp only[Bool.and_eq_true,decide_eq_true_eq] at this;omega
  ·rw[if_neg k1] at this
   by_cases k2:e.kind=2
   ·rw[if_pos k2] at this
    simp only[Bool.and_eq_true,decide_eq_true_eq] at this;have hg:=of_decide_eq_true this.2.2.2;unfold parseGl at hg;by_cases hl:200<e.text.length
    ·rw[if_pos hl] at hg;cases hg
    ·omega
   ·rw[if_neg k2] at this
    simp only[Bool.and_eq_true,decide_eq_true_eq] at this;rw[this.2.2.2];decide
 exact⟨by omega,fun x h=>by have:=(hx x h).1;omega,fun x h=>by have:=(hx x h).2.1;omega,fun x h e he=>by have:=(hx x h).2.2 e he;omega⟩
section
variable (p:PeP) (A:Option Addr) (c:Nat) (w:World)
theorem backP_large (KA:∀ w',Below w.heap.size w w'→Calls Tryz.prog 6 #[] w' fun r w2=>r= .returned (.bool true)∧Below w'.heap.size w' w2) (h:RdX w.heap.size w A p.places.length p.places) (hs:smallPe p=false):
  Calls Tryz.prog 3 #[aggPe p A c] w fun r w'=>r= .returned (.bool true)∧Below w.heap.size w w':=by
 have HK:=Lib.hid KA;obtain⟨W0,hW0⟩:∃ W0,W0=w.alloc (peO2 p A c):=⟨_,rfl⟩;have hb0:Below w.heap.size w W0:=by rw[hW0];exact one_boxP w _
 have HB0:=Lib.hid hb0;have HX0:Hid (BoxP W0 w.heap.size (peL p A c)):=Lib.hid (by rw[hW0];exact BoxP.new w 24 (peL p A c))
 have K1:Hid (∀ W,Below w.heap.size w W→Calls Tryz.prog 7 #[aggPe p A c] W fun r w'=>r= .returned (.bool false)∧Below W.heap.size W w'):=Lib.hid fun W hb=>by
  have:=psmall13_any p A p.places.length c W (h.next hb);rw[hs] at this;exact this
 clear KA h hs hb0;go_enter Tryz.func3,Tryz.ntmps3
 go_upto_region 1 with fail
 rw[←hW0];clear hW0
 go_wp2_with (first
  | (go_at_call 6;go_must ((with_reducible refine(HK.out _ HB0.out).mono ?_);rintro _ w1 ⟨rfl,hb⟩;have HB1:=Lib.hid (bstepP HB0.out hb);have HX1:=Lib.hid (HX0.out.low (by simp) hb);obtain⟨x0,x1⟩:=HX1.out.all2;clear hb))
  | (go_at_call 7;go_must ((with_reducible refine(K1.out _ HB1.out).mono ?_);rintro _ w2 ⟨rfl,hb⟩;have HB2:=Lib.hid (bstepP HB1.out hb);clear hb)))
 go_ret;exact⟨rfl,HB2.out⟩
theorem backP_small (KP:ParK) (KR:PriK) (KRD:PriD) (KM:MayK) (hG:Given w) (KA:∀ w',Below w.heap.size w w'→Calls Tryz.prog 6 #[] w' fun r w2=>r= .returned (.bool true)∧Below w'.heap.size w' w2) (h:RdX w.heap.size w A p.places.length p.places) (hc:p.places.length≤c) (hs:smallPe p=true):
  Calls Tryz.prog 3 #[aggPe p A c] w fun r w'=>r= .returned (.bool true)∧Below w.heap.size w w':=by
 have HK:=Lib.hid KA;have HG:=Lib.hid hG;have HR:=Lib.hid h;have HF:=Lib.hid (smallPe_fit hs);obtain⟨W0,hW0⟩:∃ W0,W0=w.alloc (peO2 p A c):=⟨_,rfl⟩;have hb0:Below w.heap.size w W0:=by rw[hW0];exact one_boxP w _
 have HB0:=Lib.hid hb0;have HX0:Hid (BoxP W0 w.heap.size (peL p A c)):=Lib.hid (by rw[hW0];exact BoxP.new w 24 (peL p A c));obtain⟨T,hT⟩:∃ T:ByteArray,T=⟨(outText p).toArray⟩:=⟨_,rfl⟩;obtain⟨z,hz⟩:∃ z,z=errPe p:=⟨_,rfl⟩;obtain⟨v,hv⟩:∃ v,v=mayPe p:=⟨_,rfl⟩
 have K1:Hid (∀ W,Below w.heap.size w W→Calls Tryz.prog 7 #[aggPe p A c] W fun r w'=>r= .returned (.bool true)∧Below W.heap.size W w'):=Lib.hid fun W hb=>by
  have:=psmall13_any p A p.places.length c W (h.next hb);rw[hs] at this;exact this
 have K2:Hid (∀ W,Below w.heap.size w W→Calls Tryz.prog 8 #[aggPe p A c] W fun r w'=>r= .returned (.tuple #[.string T,.int .i64 z])∧Below W.heap.size W w'):=Lib.hid fun W hb=>by
  have:=KR p A c W (h.next hb) hc hs (HG.out.below hb);rw[←hT,←hz] at this;exact this
 have K3:Hid (∀ W,Below w.heap.size w W→Calls Tryz.prog 9 #[aggPe p A c] W fun r w'=>r= .returned (.tuple #[.string T,.int .i64 z])∧Below W.heap.size W w'):=Lib.hid fun W hb=>by
  have:=KRD p A c W (h.next hb) hs;rw[←hT,←hz] at this;exact this
 have K4:Hid (∀ W,Below w.heap.size w W→Calls Tryz.prog 10 #[aggPe p A c] W fun r w'=>r= .returned (.bool v)∧Below W.heap.size W w'):=Lib.hid fun W hb=>by
  have:=KM p A c W (h.next hb) hc HF.out (HG.out.below hb);rw[←hv] at this;exact this
 have K5:Hid (∀ W,Below w.heap.size w W→Calls Tryz.prog 11 #[aggPe p A c] W fun r w'=>r= .returned (.bool v)∧Below W.heap.size W w'):=Lib.hid fun W hb=>by
  have:=pmay_any p A p.places.length c W (h.next hb) HF.out;rw[←hv] at this;exact this
 have b1:(T.toList != T.toList)=false:=by simp
 have b2:(z != z)=false:=by simp
 have b3:(v != v)=false:=by simp
 have hTs:Hid (z=0→T.size≤1000∧parsePe T.data.toList=(some p,0,0)):=Lib.hid fun h0=>by
  have h1:errPe p=0:=by rw[←hz];exact h0
  have h2:=print_parse h1;rw[hT];refine⟨?_,h2⟩;unfold errPe at h1
  split at h1
  ·split at h1
   ·cases h1
   ·rename_i hm hl
    unfold outText;rw[if_pos ⟨hm,hl⟩];show (textPe p).toArray.size≤1000;simpa using hl
  ·cases h1
 clear KA h hs hb0 hT hz hv hG KR KRD KM hc;by_cases hz0:z=0
 ·obtain⟨t1,t2⟩:=hTs.out hz0
  have K6:Hid (∀ W,Below w.heap.size w W→Calls Tryz.prog 12 #[.string T] W fun e w2=>∃ A c,e= .returned (.tuple #[aggPe p A c,.int .i64 0,.int .i64 0])∧RdX w2.heap.size w2 A p.places.length p.places∧Below W.heap.size W w2):=Lib.hid fun W hb=>by
   have:=KP T W (by omega) (HG.out.below hb);rw[t2] at this
   exact this.mono fun e w2 ⟨A,m,c,h1,h2,h3,_⟩=>by
    have hm:m=p.places.length:=h2.1;subst hm;exact⟨A,c,h1,h2,h3⟩
  have K7:Hid (∀ B d W,RdX W.heap.size W B p.places.length p.places→Below w.heap.size w W→Calls Tryz.prog 13 #[aggPe p B d,aggPe p A c] W fun r w'=>r= .returned (.bool true)∧Below W.heap.size W w'):=Lib.hid fun B d W h1 h2=>by
   have:=rsameP p p B A d c W h1 (HR.out.next h2) HF.out HF.out;rw[eqPe_self] at this;exact this
  have b4:(z != 0)=false:=by simp[hz0]
  clear t1 t2 hz0 KP;obtain⟨cap,hcap⟩:∃ cap,cap=p.cap:=⟨_,rfl⟩;obtain⟨ln,hln⟩:∃ ln,ln=p.places.length:=⟨_,rfl⟩;unfold aggPe at K1 K2 K3 K4 K5 K6 K7;unfold peL at HX0;rw[←hcap,←hln] at K1 K2 K3 K4 K5 K6 K7 HX0;unfold peO2 at hW0;unfold aggPe;rw[←hcap,←hln] at hW0 ⊢;clear hcap hln;go_enter Tryz.func3,Tryz.ntmps3
  go_upto_region 1 with fail
  rw[←hW0];clear hW0
  go_upto_region 7 with (first
   | (go_at_call 6;go_must ((with_reducible refine(HK.out _ HB0.out).mono ?_);rintro _ w1 ⟨rfl,hb⟩;have HB1:=Lib.hid (bstepP HB0.out hb);have HX1:=Lib.hid (HX0.out.low (by simp) hb);obtain⟨x0,x1⟩:=HX1.out.all2;clear hb))
   | (go_at_call 7;go_must ((with_reducible refine(K1.out _ HB1.out).mono ?_);rintro _ w2 ⟨rfl,hb⟩;have HB2:=Lib.hid (bstepP HB1.out hb);have HX2:=Lib.hid (HX1.out.low (by simp) hb);clear x0 x1;obtain⟨x0,x1⟩:=HX2.out.all2;clear hb))
   | (go_at_call 8;go_must ((with_reducible refine(K2.out _ HB2.out).mono ?_);rintro _ w3 ⟨rfl,hb⟩;have HB3:=Lib.hid (bstepP HB2.out hb);have HX3:=Lib.hid (HX2.out.low (by simp) hb);clear x0 x1;obtain⟨x0,x1⟩:=HX3.out.all2;clear hb))
   | (go_at_call 9;go_must ((with_reducible refine(K3.out _ HB3.out).mono ?_);rintro _ w4 ⟨rfl,hb⟩;have HB4:=Lib.hid (bstepP HB3.out hb);have HX4:=Lib.hid (HX3.out.low (by simp) hb);clear x0 x1;obtain⟨x0,x1⟩:=HX4.out.all2;clear hb)))
  have p0:=bw_cell x0;have p1:=bw_cell x1;have hne:=bw_some w4;refine wp_region_below (by kernel_rfl) (by kernel_rfl) ?_
  repeat (go_big_quiet_step ((first
   | (go_at_call 10;with_reducible exact bw_calls (K4.out _ (bstepP HB4.out (Subtype.property _))))
   | (go_at_call 11;with_reducible exact bw_calls (K5.out _ (bstepP HB4.out (Subtype.property _)))))))
  refine wpQuiet_nil ?_;intro w8 hw8;obtain⟨m8,rfl⟩:=hw8;obtain⟨w9,hw9⟩:∃ x,x=m8.at:=⟨_,rfl⟩;have HB5:Hid (Below w.heap.size w w9):=Lib.hid (by rw[hw9];exact bstepP HB4.out m8.2);have HX5:Hid (BoxP w9 w.heap.size [.int .i64 cap,.slice A ln c]):=Lib.hid (by rw[hw9];exact HX4.out.low (by simp) m8.2);rw[←hw9];clear hw9 p0 p1 x0 x1;obtain⟨x0,x1⟩:=HX5.out.all2
  go_wp2_with (first
   | (go_at_call 12;go_must ((with_reducible refine(K6.out _ HB5.out).mono ?_);rintro e w10 ⟨A2,c2,rfl,hr,hb⟩;have HR6:=Lib.hid (hr.next (one_boxP w10 (.cells #[.int .i64 cap,.slice A2 ln c2] 24)));have HB6:=Lib.hid (bstepP HB5.out (bstepP hb (one_boxP w10 (.cells #[.int .i64 cap,.slice A2 ln c2] 24))));have HX6:=Lib.hid (HX5.out.low (by simp) (bstepP hb (one_boxP w10 (.cells #[.int .i64 cap,.slice A2 ln c2] 24))));clear x0 x1;obtain⟨x0,x1⟩:=HX6.out.all2;clear hr hb))
   | (go_at_call 13;go_must ((with_reducible refine(K7.out _ _ _ HR6.out HB6.out).mono ?_);rintro e w11 ⟨rfl,hb⟩;have HB7:=Lib.hid (bstepP HB6.out hb);clear hb)))
  go_ret;exact⟨rfl,HB7.out⟩
 ·have b4:(z != 0)=true:=by simpa using hz0
  clear hz0 KP hTs;obtain⟨cap,hcap⟩:∃ cap,cap=p.cap:=⟨_,rfl⟩;obtain⟨ln,hln⟩:∃ ln,ln=p.places.length:=⟨_,rfl⟩;unfold aggPe at K1 K2 K3 K4 K5;unfold peL at HX0;rw[←hcap,←hln] at K1 K2 K3 K4 K5 HX0;unfold peO2 at hW0;unfold aggPe;rw[←hcap,←hln] at hW0 ⊢;clear hcap hln;go_enter Tryz.func3,Tryz.ntmps3
  go_upto_region 1 with fail
  rw[←hW0];clear hW0
  go_upto_region 7 with (first
   | (go_at_call 6;go_must ((with_reducible refine(HK.out _ HB0.out).mono ?_);rintro _ w1 ⟨rfl,hb⟩;have HB1:=Lib.hid (bstepP HB0.out hb);have HX1:=Lib.hid (HX0.out.low (by simp) hb);obtain⟨x0,x1⟩:=HX1.out.all2;clear hb))
   | (go_at_call 7;go_must ((with_reducible refine(K1.out _ HB1.out).mono ?_);rintro _ w2 ⟨rfl,hb⟩;have HB2:=Lib.hid (bstepP HB1.out hb);have HX2:=Lib.hid (HX1.out.low (by simp) hb);clear x0 x1;obtain⟨x0,x1⟩:=HX2.out.all2;clear hb))
   | (go_at_call 8;go_must ((with_reducible refine(K2.out _ HB2.out).mono ?_);rintro _ w3 ⟨rfl,hb⟩;have HB3:=Lib.hid (bstepP HB2.out hb);have HX3:=Lib.hid (HX2.out.low (by simp) hb);clear x0 x1;obtain⟨x0,x1⟩:=HX3.out.all2;clear hb))
   | (go_at_call 9;go_must ((with_reducible refine(K3.out _ HB3.out).mono ?_);rintro _ w4 ⟨rfl,hb⟩;have HB4:=Lib.hid (bstepP HB3.out hb);have HX4:=Lib.hid (HX3.out.low (by simp) hb);clear x0 x1;obtain⟨x0,x1⟩:=HX4.out.all2;clear hb)))
  have p0:=bw_cell x0;have p1:=bw_cell x1;have hne:=bw_some w4;refine wp_region_below (by kernel_rfl) (by kernel_rfl) ?_
  repeat (go_big_quiet_step ((first
   | (go_at_call 10;with_reducible exact bw_calls (K4.out _ (bstepP HB4.out (Subtype.property _))))
   | (go_at_call 11;with_reducible exact bw_calls (K5.out _ (bstepP HB4.out (Subtype.property _)))))))
  refine wpQuiet_nil ?_;intro w8 hw8;obtain⟨m8,rfl⟩:=hw8;have HB5:Hid (Below w.heap.size w m8.at):=Lib.hid (bstepP HB4.out m8.2);go_wp2;go_ret;exact⟨rfl,HB5.out⟩
end
end
end Go.Proofs.YtdobinjbejagcaaGreatDoor
