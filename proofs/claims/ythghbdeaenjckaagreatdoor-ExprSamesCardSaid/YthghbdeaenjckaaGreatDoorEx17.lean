import Derived.Deep.RegionHeld3
import Derived.Test.YthghbdeaenjckaaGreatDoorEx15
namespace Go.Proofs.YthghbdeaenjckaaGreatDoor
open Go Go.RowKit
set_option maxRecDepth 100000
set_option maxHeartbeats 2000000
structure EndQ (b q:Nat) (w W3:World) (A:Option Addr) (n c:Nat) (l:List Tok) (j:Nat) (v0 v1 v2 v3 v4:Value):Prop where
 box:Box5 W3 q v0 v1 v2 v3 v4
 grown:w.grownBy W3 (some b)
 rd:RdC b W3 A n c l j
theorem end_q {b q:Nat} {w W W3:World} {A:Option Addr} {n c:Nat} {l:List Tok} {j:Nat} {u0 u1 u2 u3 u4 v0 v1 v2 v3 v4:Value} (hb:b<q) (hq:w.heap.size≤q) (hx:Box5 W q u0 u1 u2 u3 u4) (hg:w.grownBy W (some b)) (hr:RdC b W A n c l j)
  (h3:Below (put5 W q v0 v1 v2 v3 v4).heap.size (put5 W q v0 v1 v2 v3 v4) W3):EndQ b q w W3 A n c l j v0 v1 v2 v3 v4:=
 ⟨(hx.put _ _ _ _ _).low h3,grown_trans (grown_put5 hg hq _ _ _ _ _) (grown_below h3),(hr.put5 hb _ _ _ _ _).low h3⟩
abbrev objX (x:Ex) (A:Option Addr) (c:Nat):Obj:= .cells #[.int .i64 x.kind,.int .i64 x.n,.string ⟨x.name.toArray⟩,.string ⟨x.op.toArray⟩,.slice A x.kids.length c] 24
structure MidB (b:Nat) (P:Nat→Prop) (w W:World) (A:Option Addr) (n c:Nat) (l:List Tok) (j:Nat) (x:Ex) (A0:Option Addr) (c0:Nat):Prop where
 boxL:Box5 W w.heap.size (.int .i64 x.kind) (.int .i64 x.n) (.string ⟨x.name.toArray⟩) (.string ⟨x.op.toArray⟩) (.slice A0 x.kids.length c0)
 boxQ:Box5 W (w.heap.size+1) (.int .i64 0) (.int .i64 0) (.string ⟨#[]⟩) (.string ⟨#[]⟩) (.slice none 0 0)
 grown:w.grownBy W (some b)
 rd:RdC b W A n c l j
 kids:KidsX P W A0 x
 size:w.heap.size+2≤W.heap.size
theorem MidB.first {b:Nat} {P:Nat→Prop} {w W:World} {A:Option Addr} {n c:Nat} {l:List Tok} {k:Nat} {x:Ex} {A0:Option Addr} {c0:Nat} (hr:RdC b w A n c l k) (hk:KidsX P w A0 x) (hP:∀ q,P q→q<w.heap.size∧q≠b) (hb:Below ((w.alloc (objX x A0 c0)).alloc zeroX).heap.size ((w.alloc (objX x A0 c0)).alloc zeroX) W):MidB b P w W A n c l k x A0 c0:=by
 have hs:(w.alloc (objX x A0 c0)).heap.size=w.heap.size+1:=by simp
 have hs2:((w.alloc (objX x A0 c0)).alloc zeroX).heap.size=w.heap.size+2:=by simp
 have h0:Below w.heap.size w W:=(two_boxesX w _ _).trans (hb.mono (by omega));have h1:=Box5.new (w.alloc (objX x A0 c0)) 24 (.int .i64 0) (.int .i64 0) (.string ⟨#[]⟩) (.string ⟨#[]⟩) (.slice none 0 0);rw[hs] at h1;exact⟨((Box5.new w _ _ _ _ _ _).low (one_boxX _ _)).low hb,h1.low hb,grown_below h0,hr.low h0,hk.over fun q hq=>h0.block q (hP q hq).1,by have:=hb.size;omega⟩
theorem MidB.more {b:Nat} {P:Nat→Prop} {w W W':World} {A:Option Addr} {n c:Nat} {l:List Tok} {k j:Nat} {x:Ex} {A0:Option Addr} {c0:Nat} (h:MidB b P w W A n c l k x A0 c0) (hlt:b<w.heap.size) (hP:∀ q,P q→q<w.heap.size∧q≠b) (hg:W.grownBy W' (some b)) (hr:RdC b W' A n c l j):MidB b P w W' A n c l j x A0 c0:=
 ⟨h.boxL.grown hg (by omega),h.boxQ.grown hg (by omega),grown_trans h.grown hg,hr,h.kids.grownX hg fun q hq=>⟨by have:=(hP q hq).1;have:=h.size;omega,(hP q hq).2⟩,by have:=h.size;have:=hg.size;omega⟩
theorem sg_len {l:List Tok} (hf:FitL l) (k:Nat):(sg l k).length≤100000:=by
 unfold sg
 cases hl:l[k]? with
 | none=>simp
 | some t=>
   have:=(hf.fit t (List.mem_of_getElem? hl)).word;dsimp only
   split
   ·exact this
   ·simp
def PostB (b:Nat) (P:Nat→Prop) (w:World) (A:Option Addr) (n c:Nat) (l:List Tok) (r:Rs) (e:Ending) (w':World):Prop:=w.grownBy w' (some b)∧match r with
 | .ok x j=>(∃ A' c',e= .returned (.tuple #[.agg #[.int .i64 x.kind,.int .i64 x.n,.string ⟨x.name.toArray⟩,.string ⟨x.op.toArray⟩,.slice A' x.kids.length c'],.int .i64 0])∧KidsX (fun q=>P q∨FrX w.heap.size w'.heap.size q) w' A' x)∧RdC b w' A n c l j
 | .bad j er=>e= .returned (.tuple #[.agg #[.int .i64 0,.int .i64 0,.string ⟨#[]⟩,.string ⟨#[]⟩,.slice none 0 0],.int .i64 er])∧RdC b w' A n c l j
theorem behind_deep (b:Nat) (P:Nat→Prop) (w:World) (A:Option Addr) (n c:Nat) (l:List Tok) (k:Nat) (h:RdC b w A n c l k) (hf:FitL l) (hk:k≤n) (x:Ex) (A0:Option Addr) (c0:Nat) (hx:KidsX P w A0 x) (hP:∀ q,P q→q<w.heap.size∧q≠b):
  Calls Tryz.prog 51 #[.pointer (some ⟨b,0,none⟩),.agg #[.int .i64 x.kind,.int .i64 x.n,.string ⟨x.name.toArray⟩,.string ⟨x.op.toArray⟩,.slice A0 x.kids.length c0],.int .i64 64] w (PostB b P w A n c l (.bad k 8)):=by
 have hlt:=h.lt;obtain⟨S,hS⟩:∃ S:ByteArray,S=⟨(sg l k).toArray⟩:=⟨_,rfl⟩;have KS:Hid (∀ w,RdC b w A n c l k→Calls Tryz.prog 50 #[.pointer (some ⟨b,0,none⟩)] w fun e w'=>e= .returned (.string S)∧Below w.heap.size w w'):=Lib.hid fun w h=>by rw[hS];exact nextsign_any b w A n c l k h hf hk
 have HM0:Hid (∀ W,Below ((w.alloc (objX x A0 c0)).alloc zeroX).heap.size ((w.alloc (objX x A0 c0)).alloc zeroX) W→MidB b P w W A n c l k x A0 c0):=Lib.hid fun W hb=>MidB.first h hx hP hb
 have H1:=Lib.hid (HM0.out _ (Below.refl _ _)).rd;clear h hf hk hx hS;go_enter Tryz.func51,Tryz.ntmps51;go_wp2_with (go_at_call 50;go_must ((with_reducible refine(KS.out _ H1.out).mono ?_);rintro e w1 ⟨rfl,hb1⟩;have HM:=Lib.hid (HM0.out _ hb1);clear hb1;obtain⟨d0,d1,d2,d3,d4,_⟩:=HM.out.boxQ;obtain⟨e0,e1,e2,e3,e4⟩:=HM.out.boxQ.freed;have hsz:=HM.out.size));obtain⟨W3,hW3⟩:∃ W3,W3=put5 w1 (w.heap.size+1) (.int .i64 0) (.int .i64 0) (.string ⟨#[]⟩) (.string ⟨#[]⟩) (.slice none 0 0):=⟨_,rfl⟩;have HE:EndQ b (w.heap.size+1) w W3 A n c l k (.int .i64 0) (.int .i64 0) (.string ⟨#[]⟩) (.string ⟨#[]⟩) (.slice none 0 0):=end_q (by omega) (by omega) HM.out.boxQ HM.out.grown HM.out.rd (by rw[hW3];exact Below.refl _ _);unfold put5 at hW3;rw[←hW3];clear hW3 d0 d1 d2 d3 d4;obtain⟨d0,d1,d2,d3,d4,_⟩:=HE.box;exact bodyPost_ret (v:= .tuple #[.agg #[.int .i64 0,.int .i64 0,.string ⟨#[]⟩,.string ⟨#[]⟩,.slice none 0 0],.int .i64 8]) (by simp[results,Tryz.results51,go_sem,d0,d1,d2,d3,d4]) rfl ⟨HE.grown,rfl,HE.rd⟩
theorem size_allocX (w:World) (o:Obj):(w.alloc o).heap.size=w.heap.size+1:=by simp
abbrev objXY (x y:Ex) (A A':Option Addr) (c c':Nat):Obj:= .cells #[.int .i64 x.kind,.int .i64 x.n,.string ⟨x.name.toArray⟩,.string ⟨x.op.toArray⟩,.slice A x.kids.length c,.int .i64 y.kind,.int .i64 y.n,.string ⟨y.name.toArray⟩,.string ⟨y.op.toArray⟩,.slice A' y.kids.length c'] 24
structure EndB (b:Nat) (P:Nat→Prop) (w W3:World) (A:Option Addr) (n c:Nat) (l:List Tok) (j:Nat) (op:Bs) (x y:Ex) (g:Nat):Prop where
 fin:EndQ b (w.heap.size+1) w W3 A n c l j (.int .i64 4) (.int .i64 0) (.string ⟨#[]⟩) (.string ⟨op.toArray⟩) (.slice (some ⟨g,0,none⟩) 2 2)
 kids:KidsX (fun q=>P q∨FrX w.heap.size W3.heap.size q) W3 (some ⟨g,0,none⟩) (exBin op x y)
theorem endb_last {b:Nat} {P:Nat→Prop} {w W2 w5 W3:World} {A:Option Addr} {n c:Nat} {l:List Tok} {j:Nat} {op:Bs} {x y:Ex} {A0 A2:Option Addr} {c0 c2 s2:Nat} (hlt:b<w.heap.size) (hP:∀ q,P q→q<w.heap.size∧q≠b) (h:MidB b P w W2 A n c l j x A0 c0) (hy:KidsX (FrX (w.heap.size+2) s2) W2 A2 y)
  (hs:W2.heap.size=s2+1) (h5:Below W2.heap.size W2 w5)
  (h3:W3=(put5 w5 (w.heap.size+1) (.int .i64 4) (.int .i64 0) (.string ⟨#[]⟩) (.string ⟨op.toArray⟩) (.slice (some ⟨w5.heap.size,0,none⟩) 2 2)).alloc (objXY x y A0 A2 c0 c2)):EndB b P w W3 A n c l j op x y w5.heap.size:=by
 have hm:=h.more hlt hP (grown_below h5) (h.rd.low h5);have hsz:=h5.size;have hsm:=h.size;refine⟨end_q (by omega) (by omega) hm.boxQ hm.grown hm.rd (by rw[h3];exact one_boxX _ _),?_⟩
 have hPP:∀ q,(P q∨FrX (w.heap.size+2) s2 q)→q<w5.heap.size∧q≠w.heap.size+1:=fun q hq=>by
  rcases hq with hq | hq
  ·have:=(hP q hq).1;omega
  ·have:=hq.1;have:=hq.2;omega
 have k1:KidsX (fun q=>P q∨FrX (w.heap.size+2) s2 q) w5 A0 x:=hm.kids.wide fun _ hq=> .inl hq
 have k2:KidsX (fun q=>P q∨FrX (w.heap.size+2) s2 q) w5 A2 y:=(hy.over fun q hq=>h5.block q (by have:=hq.2;omega)).wide fun _ hq=> .inr hq
 have k3:=kid_two (c:=c0) (c':=c2) (k1.put5 (c:=w.heap.size+1) (fun hq=>(hPP _ hq).2 rfl) (.int .i64 4) (.int .i64 0) (.string ⟨#[]⟩) (.string ⟨op.toArray⟩) (.slice (some ⟨w5.heap.size,0,none⟩) 2 2)) (k2.put5 (c:=w.heap.size+1) (fun hq=>(hPP _ hq).2 rfl) _ _ _ _ _) (fun q hq=>by rw[size_put5];exact(hPP q hq).1) 4 0 [] op;rw[size_put5,←h3] at k3;have hs3:W3.heap.size=w5.heap.size+1:=by rw[h3];simp
 exact k3.wide fun q hq=>by
  rw[hs3]
  rcases hq with (hq | hq) | hq
  ·exact .inl hq
  ·exact .inr ⟨by have:=hq.1;omega,by have:=hq.2;omega⟩
  ·exact .inr ⟨by omega,by omega⟩
theorem endb_first {b:Nat} {P:Nat→Prop} {w W2 w5 W3:World} {A:Option Addr} {n c:Nat} {l:List Tok} {j:Nat} {op:Bs} {x y:Ex} {A0 A2:Option Addr} {c0 c2 s2:Nat} (hlt:b<w.heap.size) (hP:∀ q,P q→q<w.heap.size∧q≠b) (h:MidB b P w W2 A n c l j x A0 c0) (hy:KidsX (FrX (w.heap.size+2) s2) W2 A2 y)
  (hs:W2.heap.size=s2+1) (h5:Below (W2.drew.alloc (objXY x y A0 A2 c0 c2)).heap.size (W2.drew.alloc (objXY x y A0 A2 c0 c2)) w5)
  (h3:W3=put5 w5 (w.heap.size+1) (.int .i64 4) (.int .i64 0) (.string ⟨#[]⟩) (.string ⟨op.toArray⟩) (.slice (some ⟨s2+1,0,none⟩) 2 2)):EndB b P w W3 A n c l j op x y (s2+1):=by
 have hrs:(W2.drew.alloc (objXY x y A0 A2 c0 c2)).heap.size=s2+2:=by rw[size_allocX];show W2.heap.size+1=_;rw[hs]
 have h0:Below W2.heap.size W2 w5:=((Below.refl W2.heap.size W2).drew.alloc (Nat.le_refl W2.heap.size) _).trans (h5.mono (by omega));have hm:=h.more hlt hP (grown_below h0) (h.rd.low h0);have hsz:=h5.size;have hsm:=h.size;refine⟨end_q (by omega) (by omega) hm.boxQ hm.grown hm.rd (by rw[h3];exact Below.refl _ _),?_⟩;have k1:KidsX (fun q=>P q∨FrX (w.heap.size+2) s2 q) W2.drew A0 x:=(h.kids.over (w':=W2.drew) (fun _ _=>rfl)).wide fun _ hq=>Or.inl hq
 have k2:KidsX (fun q=>P q∨FrX (w.heap.size+2) s2 q) W2.drew A2 y:=(hy.over (w':=W2.drew) (fun _ _=>rfl)).wide fun _ hq=>Or.inr hq
 have hds:W2.drew.heap.size=s2+1:=hs
 have hPP:∀ q,(P q∨FrX (w.heap.size+2) s2 q)→q<W2.drew.heap.size:=fun q hq=>by
  rcases hq with hq | hq
  ·have:=(hP q hq).1;omega
  ·have:=hq.2;omega
 have k3:=kid_two (c:=c0) (c':=c2) k1 k2 hPP 4 0 [] op;rw[hds] at k3
 have k4:=(k3.over (w':=w5) fun q hq=>h5.block q (by
  rw[hrs]
  rcases hq with hq | hq
  ·have:=hPP q hq;omega
  ·omega)).put5 (c:=w.heap.size+1) (fun hq=>by
   rcases hq with (hq | hq) | hq
   ·have:=(hP _ hq).1;omega
   ·have:=hq.1;omega
   ·omega) (.int .i64 4) (.int .i64 0) (.string ⟨#[]⟩) (.string ⟨op.toArray⟩) (.slice (some ⟨s2+1,0,none⟩) 2 2)
 have hs3:W3.heap.size=w5.heap.size:=by rw[h3,size_put5]
 rw[←h3] at k4
 exact k4.wide fun q hq=>by
  rw[hs3]
  rcases hq with (hq | hq) | hq
  ·exact .inl hq
  ·exact .inr ⟨by have:=hq.1;omega,by have:=hq.2;omega⟩
  ·exact .inr ⟨by omega,by omega⟩
theorem behind_bad (b:Nat) (P:Nat→Prop) (w:World) (A:Option Addr) (n c:Nat) (l:List Tok) (k d:Nat) (h:RdC b w A n c l k) (hf:FitL l) (hk:k≤n) (hd:d<64) (x:Ex) (A0:Option Addr) (c0:Nat) (hx:KidsX P w A0 x) (hP:∀ q,P q→q<w.heap.size∧q≠b) (j er:Nat) (he:er≠0) (HK:ConRow b A n c l (strong (sg l k)+1) (k+1) (d+1) (.bad j er)):
  Calls Tryz.prog 51 #[.pointer (some ⟨b,0,none⟩),.agg #[.int .i64 x.kind,.int .i64 x.n,.string ⟨x.name.toArray⟩,.string ⟨x.op.toArray⟩,.slice A0 x.kids.length c0],.int .i64 d] w (PostB b P w A n c l (.bad j er)):=by
 have hlt:=h.lt;have hkb:k≤1000000:=by have:=h.row.1;have:=hf.len;omega
 obtain⟨S,hS⟩:∃ S:ByteArray,S=⟨(sg l k).toArray⟩:=⟨_,rfl⟩;have KS:Hid (∀ w,RdC b w A n c l k→Calls Tryz.prog 50 #[.pointer (some ⟨b,0,none⟩)] w fun e w'=>e= .returned (.string S)∧Below w.heap.size w w'):=Lib.hid fun w h=>by rw[hS];exact nextsign_any b w A n c l k h hf hk
 have eS:S.data.toList=sg l k:=by rw[hS]
 have KT:Hid (∀ w,Calls Tryz.prog 41 #[.string S] w fun e w'=>e= .returned (.int .i64 (strong (sg l k)))∧w=w'):=Lib.hid fun w=>by rw[←eS];exact cstrong_any S w
 have hmx:=strong_le (sg l k);have HM0:Hid (∀ W,Below ((w.alloc (objX x A0 c0)).alloc zeroX).heap.size ((w.alloc (objX x A0 c0)).alloc zeroX) W→MidB b P w W A n c l k x A0 c0):=Lib.hid fun W hb=>MidB.first h hx hP hb
 have H1:=Lib.hid (HM0.out _ (Below.refl _ _)).rd;have HPP:=Lib.hid hP;have b1:((d:Int)==64)=false:=by simp;omega
 have K:Hid (∀ w,RdC b w A n c l (k+1)→Calls Tryz.prog 31 #[.pointer (some ⟨b,0,none⟩),.int .i64 (((strong (sg l k):Nat):Int)+1),.int .i64 ((d:Int)+1)] w (PostC b w A n c l (.bad j er))):=Lib.hid HK;have b2:((er:Int) != 0)=true:=by simp;omega
 have b3:(er != 0)=true:=by simp;omega
 generalize strong (sg l k)=m at KT K hmx;clear HK he h hf hk hx hS eS hP;go_enter Tryz.func51,Tryz.ntmps51;go_wp2_with (first | (go_at_call 50;go_must ((with_reducible refine(KS.out _ H1.out).mono ?_);rintro e w1 ⟨rfl,hb1⟩;have HM:=Lib.hid (HM0.out _ hb1);clear hb1;have HM1:=Lib.hid (HM.out.more hlt HPP.out (grown_set b 1 _ (.int .i64 ((k:Int)+1))) (HM.out.rd.placez (k+1) _ (by omega)));have hr0:=HM.out.rd.c0;have hr1:=HM.out.rd.c1;have hr2:=HM.out.rd.f1)) | (go_at_call 41;go_must ((with_reducible refine(KT.out _).mono ?_);rintro e w' ⟨rfl,rfl⟩)) | (go_at_call 31;go_must ((with_reducible refine(K.out _ HM1.out.rd).mono ?_);rintro e w2 ⟨hg2,rfl,hr2⟩;have HM2:=Lib.hid (HM1.out.more hlt HPP.out hg2 hr2);clear hg2;obtain⟨d0,d1,d2,d3,d4,_⟩:=HM2.out.boxQ;obtain⟨e0,e1,e2,e3,e4⟩:=HM2.out.boxQ.freed;have hsz:w.heap.size+1<w2.heap.size:=HM2.out.size)));obtain⟨W3,hW3⟩:∃ W3,W3=(put5 w2 (w.heap.size+1) (.int .i64 0) (.int .i64 0) (.string ⟨#[]⟩) (.string ⟨#[]⟩) (.slice none 0 0)).alloc zeroX:=⟨_,rfl⟩;have HE:EndQ b (w.heap.size+1) w W3 A n c l j (.int .i64 0) (.int .i64 0) (.string ⟨#[]⟩) (.string ⟨#[]⟩) (.slice none 0 0):=end_q (by omega) (by omega) HM2.out.boxQ HM2.out.grown HM2.out.rd (by rw[hW3];exact one_boxX _ _);rw[←hW3];clear hW3 d0 d1 d2 d3 d4;obtain⟨d0,d1,d2,d3,d4,_⟩:=HE.box;exact bodyPost_ret (v:= .tuple #[.agg #[.int .i64 0,.int .i64 0,.string ⟨#[]⟩,.string ⟨#[]⟩,.slice none 0 0],.int .i64 er]) (by simp[results,Tryz.results51,go_sem,d0,d1,d2,d3,d4]) rfl ⟨HE.grown,rfl,HE.rd⟩
theorem behind_ok (b:Nat) (P:Nat→Prop) (w:World) (A:Option Addr) (n c:Nat) (l:List Tok) (k d:Nat) (h:RdC b w A n c l k) (hf:FitL l) (hk:k≤n) (hd:d<64) (x:Ex) (A0:Option Addr) (c0:Nat) (hx:KidsX P w A0 x) (hP:∀ q,P q→q<w.heap.size∧q≠b) (y:Ex) (j:Nat) (HK:ConRow b A n c l (strong (sg l k)+1) (k+1) (d+1) (.ok y j)):
  Calls Tryz.prog 51 #[.pointer (some ⟨b,0,none⟩),.agg #[.int .i64 x.kind,.int .i64 x.n,.string ⟨x.name.toArray⟩,.string ⟨x.op.toArray⟩,.slice A0 x.kids.length c0],.int .i64 d] w (PostB b P w A n c l (.ok (exBin (sg l k) x y) j)):=by
 have hlt:=h.lt;have hkb:k≤1000000:=by have:=h.row.1;have:=hf.len;omega
 obtain⟨S,hS⟩:∃ S:ByteArray,S=⟨(sg l k).toArray⟩:=⟨_,rfl⟩;have KS:Hid (∀ w,RdC b w A n c l k→Calls Tryz.prog 50 #[.pointer (some ⟨b,0,none⟩)] w fun e w'=>e= .returned (.string S)∧Below w.heap.size w w'):=Lib.hid fun w h=>by rw[hS];exact nextsign_any b w A n c l k h hf hk
 have eS:S.data.toList=sg l k:=by rw[hS]
 have KT:Hid (∀ w,Calls Tryz.prog 41 #[.string S] w fun e w'=>e= .returned (.int .i64 (strong (sg l k)))∧w=w'):=Lib.hid fun w=>by rw[←eS];exact cstrong_any S w
 have hmx:=strong_le (sg l k);have HM0:Hid (∀ W,Below ((w.alloc (objX x A0 c0)).alloc zeroX).heap.size ((w.alloc (objX x A0 c0)).alloc zeroX) W→MidB b P w W A n c l k x A0 c0):=Lib.hid fun W hb=>MidB.first h hx hP hb
 have H1:=Lib.hid (HM0.out _ (Below.refl _ _)).rd;have HPP:=Lib.hid hP;have b1:((d:Int)==64)=false:=by simp;omega
 have K:Hid (∀ w,RdC b w A n c l (k+1)→Calls Tryz.prog 31 #[.pointer (some ⟨b,0,none⟩),.int .i64 (((strong (sg l k):Nat):Int)+1),.int .i64 ((d:Int)+1)] w (PostC b w A n c l (.ok y j))):=Lib.hid HK
 have hSz:S.size≤281474976710656:=by
  rw[←len_data,eS];have:=sg_len hf k;omega
 have KC:=Lib.hid fun w=>tclone_any S hSz w
 generalize strong (sg l k)=m at KT K hmx;have HSS:=Lib.hid hS;clear HK h hf hk hx eS hP hSz hS;go_enter Tryz.func51,Tryz.ntmps51;go_wp2_with (first | (go_at_call 50;go_must ((with_reducible refine(KS.out _ H1.out).mono ?_);rintro e w1 ⟨rfl,hb1⟩;have HM:=Lib.hid (HM0.out _ hb1);clear hb1;have HM1:=Lib.hid (HM.out.more hlt HPP.out (grown_set b 1 _ (.int .i64 ((k:Int)+1))) (HM.out.rd.placez (k+1) _ (by omega)));have hr0:=HM.out.rd.c0;have hr1:=HM.out.rd.c1;have hr2:=HM.out.rd.f1)) | (go_at_call 41;go_must ((with_reducible refine(KT.out _).mono ?_);rintro e w' ⟨rfl,rfl⟩)) | (go_at_call 31;go_must ((with_reducible refine(K.out _ HM1.out.rd).mono ?_);rintro e w2 ⟨hg2,⟨A2,c2,rfl,hk2⟩,hr2⟩;have HM2:=Lib.hid (HM1.out.more hlt HPP.out hg2 hr2);have HKD:=Lib.hid hk2;have HS1:=Lib.hid HM1.out.size;clear hg2 hr2 hk2;have hsz:w.heap.size+1<w2.heap.size:=HM2.out.size;have hsz0:w.heap.size<w2.heap.size:=(by omega))));obtain⟨W2,hW2⟩:∃ W2,W2=w2.alloc (objX y A2 c2):=⟨_,rfl⟩;have HMY:=Lib.hid (HM2.out.more (W':=W2) hlt HPP.out (by rw[hW2];exact grown_below (one_boxX _ _)) (by rw[hW2];exact HM2.out.rd.box _));have HBR:=Lib.hid (show Box5 W2 w2.heap.size (.int .i64 y.kind) (.int .i64 y.n) (.string ⟨y.name.toArray⟩) (.string ⟨y.op.toArray⟩) (.slice A2 y.kids.length c2) by rw[hW2];exact Box5.new w2 _ _ _ _ _ _);have hs2:W2.heap.size=w2.heap.size+1:=by rw[hW2];simp
 have HKY:=Lib.hid (show KidsX (FrX (w.heap.size+2) w2.heap.size) W2 A2 y by
  rw[hW2];exact(HKD.out.to (by have:=HS1.out;simp[World.setCell] at this ⊢;omega) (Nat.le_refl _)).allocX (fun q hq=>hq.2) _)
 rw[←hW2];clear hW2
 have HL:Hid (∀ W',Below W2.heap.size W2 W'→(W'.cell? ⟨w.heap.size,0,none⟩=some (.int .i64 x.kind)∧W'.cell? ⟨w.heap.size,1,none⟩=some (.int .i64 x.n)∧W'.cell? ⟨w.heap.size,2,none⟩=some (.string ⟨x.name.toArray⟩)∧W'.cell? ⟨w.heap.size,3,none⟩=some (.string ⟨x.op.toArray⟩)∧W'.cell? ⟨w.heap.size,4,none⟩=some (.slice A0 x.kids.length c0))∧
   W'.cell? ⟨w2.heap.size,0,none⟩=some (.int .i64 y.kind)∧W'.cell? ⟨w2.heap.size,1,none⟩=some (.int .i64 y.n)∧W'.cell? ⟨w2.heap.size,2,none⟩=some (.string ⟨y.name.toArray⟩)∧W'.cell? ⟨w2.heap.size,3,none⟩=some (.string ⟨y.op.toArray⟩)∧W'.cell? ⟨w2.heap.size,4,none⟩=some (.slice A2 y.kids.length c2)):=Lib.hid fun W' hb=>by
  have h1:=HMY.out.boxL.low hb;have h2:=HBR.out.low hb;exact⟨⟨h1.c0,h1.c1,h1.c2,h1.c3,h1.c4⟩,h2.c0,h2.c1,h2.c2,h2.c3,h2.c4⟩
 obtain⟨⟨l0,l1,l2,l3,l4⟩,r0,r1,r2,r3,r4⟩:=HL.out _ (Below.refl _ _);have n1:w.heap.size+1≠w.heap.size:=by omega
 have n2:w.heap.size+1≠w2.heap.size:=by omega
 go_region_held3 (fun W'=>(W'.cell? ⟨w.heap.size,0,none⟩=some (.int .i64 x.kind)∧W'.cell? ⟨w.heap.size,1,none⟩=some (.int .i64 x.n)∧W'.cell? ⟨w.heap.size,2,none⟩=some (.string ⟨x.name.toArray⟩)∧W'.cell? ⟨w.heap.size,3,none⟩=some (.string ⟨x.op.toArray⟩)∧W'.cell? ⟨w.heap.size,4,none⟩=some (.slice A0 x.kids.length c0))∧
   W'.cell? ⟨w2.heap.size,0,none⟩=some (.int .i64 y.kind)∧W'.cell? ⟨w2.heap.size,1,none⟩=some (.int .i64 y.n)∧W'.cell? ⟨w2.heap.size,2,none⟩=some (.string ⟨y.name.toArray⟩)∧W'.cell? ⟨w2.heap.size,3,none⟩=some (.string ⟨y.op.toArray⟩)∧W'.cell? ⟨w2.heap.size,4,none⟩=some (.slice A2 y.kids.length c2))
  (first | (with_reducible exact⟨⟨l0,l1,l2,l3,l4⟩,r0,r1,r2,r3,r4⟩) | (simp only[World.cell?_drew,World.cell?_setCell_far,World.cell?_alloc_some,n1,n2,l0,l1,l2,l3,l4,r0,r1,r2,r3,r4,ne_eq,not_false_eq_true,Option.isSome_some,and_self]))
  (first | (go_at_call 34;((with_reducible refine(KC.out _).mono ?_));rintro e w5 ⟨rfl,hb5⟩;have HB5:Hid (Below W2.heap.size W2 w5):=(by first | exact Lib.hid (((Below.refl _ _).drew).trans hb5) | exact Lib.hid ((((Below.refl _ _).drew).alloc (Nat.le_refl _) _).trans (hb5.mono (by simp))));obtain⟨⟨l0,l1,l2,l3,l4⟩,r0,r1,r2,r3,r4⟩:=HL.out _ HB5.out;obtain⟨d0,d1,d2,d3,d4,_⟩:=HMY.out.boxQ.low HB5.out;obtain⟨e0,e1,e2,e3,e4⟩:=(HMY.out.boxQ.low HB5.out).freed;have hq5:w.heap.size+1<w5.heap.size:=(by have:=HB5.out.size;omega)))
 ·obtain⟨W3,hW3⟩:∃ W3,W3=(put5 w5 (w.heap.size+1) (.int .i64 4) (.int .i64 0) (.string ⟨#[]⟩) (.string S) (.slice (some ⟨w5.heap.size,0,none⟩) 2 2)).alloc (objXY x y A0 A2 c0 c2):=⟨_,rfl⟩
  have HE:=Lib.hid (endb_last (op:=sg l k) (W3:=W3) (c2:=c2) hlt HPP.out HMY.out HKY.out hs2 HB5.out (by rw[hW3,HSS.out]));rw[←hW3];clear hW3 d0 d1 d2 d3 d4;go_wp2;obtain⟨d0,d1,d2,d3,d4,_⟩:=HE.out.fin.box;rw[←HSS.out] at d3;exact bodyPost_ret (v:= .tuple #[.agg #[.int .i64 4,.int .i64 0,.string ⟨#[]⟩,.string S,.slice (some ⟨w5.heap.size,0,none⟩) 2 2],.int .i64 0]) (by simp[results,Tryz.results51,go_sem,d0,d1,d2,d3,d4]) rfl ⟨HE.out.fin.grown,⟨⟨_,2,by rw[HSS.out];rfl,HE.out.kids⟩,HE.out.fin.rd⟩⟩
 ·obtain⟨W3,hW3⟩:∃ W3,W3=put5 w5 (w.heap.size+1) (.int .i64 4) (.int .i64 0) (.string ⟨#[]⟩) (.string S) (.slice (some ⟨w2.heap.size+1,0,none⟩) 2 2):=⟨_,rfl⟩
  have HE:=Lib.hid (endb_first (op:=sg l k) (W3:=W3) hlt HPP.out HMY.out HKY.out hs2 hb5 (by rw[hW3,HSS.out]));unfold put5 at hW3;rw[←hW3];clear hW3 d0 d1 d2 d3 d4;go_wp2;obtain⟨d0,d1,d2,d3,d4,_⟩:=HE.out.fin.box;rw[←HSS.out] at d3;exact bodyPost_ret (v:= .tuple #[.agg #[.int .i64 4,.int .i64 0,.string ⟨#[]⟩,.string S,.slice (some ⟨w2.heap.size+1,0,none⟩) 2 2],.int .i64 0]) (by simp[results,Tryz.results51,go_sem,d0,d1,d2,d3,d4]) rfl ⟨HE.out.fin.grown,⟨⟨_,2,by rw[HSS.out];rfl,HE.out.kids⟩,HE.out.fin.rd⟩⟩
structure MidO (b:Nat) (w W:World) (A:Option Addr) (n c:Nat) (l:List Tok) (j:Nat):Prop where
 boxQ:Box5 W w.heap.size (.int .i64 0) (.int .i64 0) (.string ⟨#[]⟩) (.string ⟨#[]⟩) (.slice none 0 0)
 grown:w.grownBy W (some b)
 rd:RdC b W A n c l j
 size:w.heap.size+1≤W.heap.size
theorem MidO.first {b:Nat} {w W:World} {A:Option Addr} {n c:Nat} {l:List Tok} {k:Nat} (hr:RdC b w A n c l k) (hb:Below (w.alloc zeroX).heap.size (w.alloc zeroX) W):MidO b w W A n c l k:=by
 have hs:(w.alloc zeroX).heap.size=w.heap.size+1:=size_allocX _ _;have h0:Below w.heap.size w W:=(one_boxX w _).trans (hb.mono (by omega));exact⟨(Box5.new w _ _ _ _ _ _).low hb,grown_below h0,hr.low h0,by have:=hb.size;omega⟩
theorem MidO.more {b:Nat} {w W W':World} {A:Option Addr} {n c:Nat} {l:List Tok} {k j:Nat} (h:MidO b w W A n c l k) (hlt:b<w.heap.size) (hg:W.grownBy W' (some b)) (hr:RdC b W' A n c l j):MidO b w W' A n c l j:=
 ⟨h.boxQ.grown hg (by omega),grown_trans h.grown hg,hr,by have:=h.size;have:=hg.size;omega⟩
theorem MidO.low {b:Nat} {w W W':World} {A:Option Addr} {n c:Nat} {l:List Tok} {k:Nat} (h:MidO b w W A n c l k) (hlt:b<w.heap.size) (hb:Below W.heap.size W W'):MidO b w W' A n c l k:=h.more hlt (grown_below hb) (h.rd.low hb)
theorem PostC.form {b:Nat} {w w':World} {A:Option Addr} {n c:Nat} {l:List Tok} {r:Rs} {e:Ending} (h:PostC b w A n c l r e w'):∃ (v0 v1:Int) (v2 v3:ByteArray) (A4:Option Addr) (n4 c4:Nat) (er:Nat),e= .returned (.tuple #[.agg #[.int .i64 v0,.int .i64 v1,.string v2,.string v3,.slice A4 n4 c4],.int .i64 er])∧Hid (PostC b w A n c l r (.returned (.tuple #[.agg #[.int .i64 v0,.int .i64 v1,.string v2,.string v3,.slice A4 n4 c4],.int .i64 er])) w'):=by
 cases r with
 | ok x j=>
   have h0:=h;obtain⟨hg,⟨A',c',rfl,hk⟩,hr⟩:=h;exact⟨_,_,_,_,_,_,_,0,rfl,Lib.hid h0⟩
 | bad j er=>
   have h0:=h;obtain⟨hg,rfl,hr⟩:=h;exact⟨_,_,_,_,_,_,_,er,rfl,Lib.hid h0⟩
theorem postc_pass {b:Nat} {w w1 w2 W3:World} {A:Option Addr} {n c:Nat} {l:List Tok} {r:Rs} {v v0 v1 v2 v3 v4:Value} (h:PostC b w1 A n c l r (.returned v) w2) (hlt:b<w.heap.size) (hw:w.grownBy w1 (some b)) (hs:w.heap.size+1≤w1.heap.size)
  (h3:W3=put5 w2 w.heap.size v0 v1 v2 v3 v4):PostC b w A n c l r (.returned v) W3:=by
 have hs3:W3.heap.size=w2.heap.size:=by rw[h3,size_put5]
 have hg3:w1.grownBy w2 (some b)→w.grownBy W3 (some b):=fun hg=>by rw[h3];exact grown_put5 (grown_trans hw hg) (Nat.le_refl _) _ _ _ _ _
 cases r with
 | ok x j=>
   obtain⟨hg,⟨A',c',he,hk⟩,hr⟩:=h;refine⟨hg3 hg,⟨A',c',he,?_⟩,by rw[h3];exact hr.put5 hlt _ _ _ _ _⟩;rw[hs3,h3];exact(hk.put5 (fun hq=>by have:=hq.1;omega) _ _ _ _ _).to (by omega) (Nat.le_refl _)
 | bad j er=>
   obtain⟨hg,he,hr⟩:=h;exact⟨hg3 hg,he,by rw[h3];exact hr.put5 hlt _ _ _ _ _⟩
theorem operand_num (b:Nat) (w:World) (A:Option Addr) (n c:Nat) (l:List Tok) (k d:Nat) (h:RdC b w A n c l k) (hf:FitL l) (hk:k≤n) (t:Tok) (ht:nxt l k=t) (h2:t.kind=2):
  Calls Tryz.prog 49 #[.pointer (some ⟨b,0,none⟩),.int .i64 d] w (PostC b w A n c l (.ok (exNum t.n) (k+1))):=by
 have hlt:=h.lt;have hkb:k≤1000000:=by have:=h.row.1;have:=hf.len;omega
 have HM0:Hid (∀ W,Below (w.alloc zeroX).heap.size (w.alloc zeroX) W→MidO b w W A n c l k):=Lib.hid fun W hb=>MidO.first h hb
 have KN:Hid (∀ w,RdC b w A n c l k→Calls Tryz.prog 72 #[.pointer (some ⟨b,0,none⟩)] w (NextP w t)):=Lib.hid fun w h=>by rw[←ht];exact next_any b w A n c l k h hf hk
 have H1:=Lib.hid (HM0.out _ (Below.refl _ _)).rd;unfold NextP at KN;rw[h2] at KN;clear h hf hk ht h2;go_enter Tryz.func49,Tryz.ntmps49;go_wp2_with (go_at_call 72;go_must ((with_reducible refine(KN.out _ H1.out).mono ?_);rintro e w1 ⟨A1,c1,rfl,hb1⟩;have HM:=Lib.hid (HM0.out _ hb1);clear hb1;obtain⟨d0,d1,d2,d3,d4,_⟩:=HM.out.boxQ;obtain⟨e0,e1,e2,e3,e4⟩:=HM.out.boxQ.freed;have hsz:w.heap.size<w1.heap.size:=HM.out.size;have hr0:=HM.out.rd.c0;have hr1:=HM.out.rd.c1;have hr2:=HM.out.rd.f1;have hl1:=HM.out.rd.lt));obtain⟨W,hW⟩:∃ W,W=w1.setCell ⟨b,1,none⟩ (.int .i64 ((k:Int)+1)):=⟨_,rfl⟩;have hm:MidO b w W A n c l (k+1):=by rw[hW];exact HM.out.more hlt (grown_set b 1 _ _) (HM.out.rd.placez (k+1) _ (by omega))
 obtain⟨W3,hW3⟩:∃ W3,W3=(put5 W w.heap.size (.int .i64 0) (.int .i64 t.n) (.string ⟨#[]⟩) (.string ⟨#[]⟩) (.slice none 0 0)).alloc (.cells #[.int .i64 2,.string ⟨t.word.toArray⟩,.int .i64 t.n,.slice A1 t.parts.length c1,.int .i64 t.pl] 38):=⟨_,rfl⟩;have HE:EndQ b w.heap.size w W3 A n c l (k+1) (.int .i64 0) (.int .i64 t.n) (.string ⟨#[]⟩) (.string ⟨#[]⟩) (.slice none 0 0):=end_q hlt (Nat.le_refl _) hm.boxQ hm.grown hm.rd (by rw[hW3];exact one_boxX _ _);rw[←hW,←hW3];clear hW hW3 d0 d1 d2 d3 d4;obtain⟨d0,d1,d2,d3,d4,_⟩:=HE.box;exact bodyPost_ret (v:= .tuple #[.agg #[.int .i64 0,.int .i64 t.n,.string ⟨#[]⟩,.string ⟨#[]⟩,.slice none 0 0],.int .i64 0]) (by simp[results,Tryz.results49,go_sem,d0,d1,d2,d3,d4]) rfl ⟨HE.grown,⟨none,0,rfl,KidsX.leaf _ _ _ _ _ _ _⟩,HE.rd⟩
theorem operand_var (b:Nat) (w:World) (A:Option Addr) (n c:Nat) (l:List Tok) (k d:Nat) (h:RdC b w A n c l k) (hf:FitL l) (hk:k≤n) (t:Tok) (ht:nxt l k=t) (h2:t.kind=6):
  Calls Tryz.prog 49 #[.pointer (some ⟨b,0,none⟩),.int .i64 d] w (PostC b w A n c l (.ok (exVar t.word) (k+1))):=by
 have hlt:=h.lt;have hkb:k≤1000000:=by have:=h.row.1;have:=hf.len;omega
 have HM0:Hid (∀ W,Below (w.alloc zeroX).heap.size (w.alloc zeroX) W→MidO b w W A n c l k):=Lib.hid fun W hb=>MidO.first h hb
 have KN:Hid (∀ w,RdC b w A n c l k→Calls Tryz.prog 72 #[.pointer (some ⟨b,0,none⟩)] w (NextP w t)):=Lib.hid fun w h=>by rw[←ht];exact next_any b w A n c l k h hf hk
 have H1:=Lib.hid (HM0.out _ (Below.refl _ _)).rd;unfold NextP at KN;rw[h2] at KN
 have hw1:t.word.length≤100000:=by
  rw[←ht];unfold nxt
  cases hl:l[k]? with
  | none=>simp
  | some t=>exact(hf.fit t (List.mem_of_getElem? hl)).word
 obtain⟨S,hS⟩:∃ S:ByteArray,S=⟨t.word.toArray⟩:=⟨_,rfl⟩;have hSz:S.size≤281474976710656:=by rw[←len_data,hS];show t.word.length≤_;omega
 have KC:=Lib.hid fun w=>tclone_any S hSz w
 rw[←hS] at KN;have HSS:=Lib.hid hS;clear h hf hk ht h2 hS hSz hw1;go_enter Tryz.func49,Tryz.ntmps49;go_wp2_with (first | (go_at_call 72;go_must ((with_reducible refine(KN.out _ H1.out).mono ?_);rintro e w1 ⟨A1,c1,rfl,hb1⟩;have HM:=Lib.hid (HM0.out _ hb1);clear hb1;have hsz:w.heap.size<w1.heap.size:=HM.out.size;have hr0:=HM.out.rd.c0;have hr1:=HM.out.rd.c1;have hr2:=HM.out.rd.f1;have hl1:=HM.out.rd.lt)) | (go_at_call 34;go_must ((with_reducible refine(KC.out _).mono ?_);rintro e w5 ⟨rfl,hb5⟩;have HM5:=Lib.hid (((HM.out.more hlt (grown_set b 1 _ (.int .i64 ((k:Int)+1))) (HM.out.rd.placez (k+1) _ (by omega))).low hlt (one_boxX _ _)).low hlt hb5);obtain⟨d0,d1,d2,d3,d4,_⟩:=HM5.out.boxQ;obtain⟨e0,e1,e2,e3,e4⟩:=HM5.out.boxQ.freed)));obtain⟨W3,hW3⟩:∃ W3,W3=put5 w5 w.heap.size (.int .i64 1) (.int .i64 0) (.string S) (.string ⟨#[]⟩) (.slice none 0 0):=⟨_,rfl⟩;have HE:EndQ b w.heap.size w W3 A n c l (k+1) (.int .i64 1) (.int .i64 0) (.string S) (.string ⟨#[]⟩) (.slice none 0 0):=end_q hlt (Nat.le_refl _) HM5.out.boxQ HM5.out.grown HM5.out.rd (by rw[hW3];exact Below.refl _ _);unfold put5 at hW3;rw[←hW3];clear hW3 d0 d1 d2 d3 d4;obtain⟨d0,d1,d2,d3,d4,_⟩:=HE.box;exact bodyPost_ret (v:= .tuple #[.agg #[.int .i64 1,.int .i64 0,.string S,.string ⟨#[]⟩,.slice none 0 0],.int .i64 0]) (by simp[results,Tryz.results49,go_sem,d0,d1,d2,d3,d4]) rfl ⟨HE.grown,⟨none,0,by rw[HSS.out];rfl,KidsX.leaf _ _ _ _ _ _ _⟩,HE.rd⟩
structure SgT (l:List Tok) (k:Nat) (S:ByteArray) (m:Bool) (n:Bool) (p:Bool):Prop where
 b0:(S.toList==[45])=m
 b1:(S.toList==[33])=n
 b2:(S.toList==[40])=p
theorem sgt_of (l:List Tok) (k:Nat) (S:ByteArray) (hS:S=⟨(sg l k).toArray⟩):SgT l k S (decide (sg l k=[45])) (decide (sg l k=[33])) (decide (sg l k=[40])):=
 ⟨(sgB l k S hS [45] _ rfl).1,(sgB l k S hS [33] _ rfl).1,(sgB l k S hS [40] _ rfl).1⟩
theorem operand_signed (b:Nat) (w:World) (A:Option Addr) (n c:Nat) (l:List Tok) (k d:Nat) (h:RdC b w A n c l k) (hf:FitL l) (hk:k≤n) (t:Tok) (ht:nxt l k=t) (h2:t.kind≠2) (h6:t.kind≠6) (kd:Int) (hs:(sg l k=[45]∧kd=2)∨(sg l k=[33]∧kd=3)) (r:Rs)
  (HK:∀ w,RdC b w A n c l k→Calls Tryz.prog 73 #[.pointer (some ⟨b,0,none⟩),.int .i64 kd,.int .i64 d] w (PostC b w A n c l r)):
  Calls Tryz.prog 49 #[.pointer (some ⟨b,0,none⟩),.int .i64 d] w (PostC b w A n c l r):=by
 have hlt:=h.lt;have HM0:Hid (∀ W,Below (w.alloc zeroX).heap.size (w.alloc zeroX) W→MidO b w W A n c l k):=Lib.hid fun W hb=>MidO.first h hb
 have KN:Hid (∀ w,RdC b w A n c l k→Calls Tryz.prog 72 #[.pointer (some ⟨b,0,none⟩)] w (NextP w t)):=Lib.hid fun w h=>by rw[←ht];exact next_any b w A n c l k h hf hk
 have H1:=Lib.hid (HM0.out _ (Below.refl _ _)).rd;unfold NextP at KN;obtain⟨S,hS⟩:∃ S:ByteArray,S=⟨(sg l k).toArray⟩:=⟨_,rfl⟩;have KS:Hid (∀ w,RdC b w A n c l k→Calls Tryz.prog 50 #[.pointer (some ⟨b,0,none⟩)] w fun e w'=>e= .returned (.string S)∧Below w.heap.size w w'):=Lib.hid fun w h=>by rw[hS];exact nextsign_any b w A n c l k h hf hk
 obtain⟨x,hx⟩:∃ x,x=t.kind:=⟨_,rfl⟩;have q2:(x==2)=false:=by rw[hx];simpa using h2
 have q6:(x==6)=false:=by rw[hx];simpa using h6
 rw[←hx] at KN;have K:=Lib.hid HK;obtain⟨s0,s1,_⟩:=sgt_of l k S hS
 rcases hs with ⟨hs,rfl⟩ | ⟨hs,rfl⟩
 all_goals
  rw[hs] at s0 s1;clear h hf hk ht h2 h6 hx HK hS hs;go_enter Tryz.func49,Tryz.ntmps49;go_wp2_with (first | (go_at_call 72;go_must ((with_reducible refine(KN.out _ H1.out).mono ?_);rintro e w1 ⟨A1,c1,rfl,hb1⟩;have HM:=Lib.hid (HM0.out _ hb1);clear hb1)) | (go_at_call 50;go_must ((with_reducible refine(KS.out _ (HM.out.low hlt (one_boxX _ _)).rd).mono ?_);rintro e w3 ⟨rfl,hb3⟩;have HM3:=Lib.hid ((HM.out.low hlt (one_boxX _ _)).low hlt hb3);clear hb3)) | (go_at_call 73;go_must ((with_reducible refine(K.out _ HM3.out.rd).mono ?_);rintro e w4 hp;obtain⟨v0,v1,v2,v3,A4,n4,c4,er,rfl,HP⟩:=hp.form;have HBX:=Lib.hid (HM3.out.boxQ.grown hp.1 (by omega));clear hp;obtain⟨d0,d1,d2,d3,d4,_⟩:=HBX.out;obtain⟨e0,e1,e2,e3,e4⟩:=HBX.out.freed)));obtain⟨W3,hW3⟩:∃ W3,W3=put5 w4 w.heap.size (.int .i64 v0) (.int .i64 v1) (.string v2) (.string v3) (.slice A4 n4 c4):=⟨_,rfl⟩;have HE:=postc_pass HP.out hlt HM3.out.grown HM3.out.size hW3;have HX:=HBX.out.put (.int .i64 v0) (.int .i64 v1) (.string v2) (.string v3) (.slice A4 n4 c4);rw[←hW3] at HX;unfold put5 at hW3;rw[←hW3];clear hW3 d0 d1 d2 d3 d4;obtain⟨d0,d1,d2,d3,d4,_⟩:=HX;exact bodyPost_ret (v:= .tuple #[.agg #[.int .i64 v0,.int .i64 v1,.string v2,.string v3,.slice A4 n4 c4],.int .i64 er]) (by simp[results,Tryz.results49,go_sem,d0,d1,d2,d3,d4]) rfl HE
theorem operand_par (b:Nat) (w:World) (A:Option Addr) (n c:Nat) (l:List Tok) (k d:Nat) (h:RdC b w A n c l k) (hf:FitL l) (hk:k≤n) (t:Tok) (ht:nxt l k=t) (h2:t.kind≠2) (h6:t.kind≠6) (hs:sg l k=[40]) (r:Rs)
  (HK:∀ w,RdC b w A n c l k→Calls Tryz.prog 74 #[.pointer (some ⟨b,0,none⟩),.int .i64 d] w (PostC b w A n c l r)):
  Calls Tryz.prog 49 #[.pointer (some ⟨b,0,none⟩),.int .i64 d] w (PostC b w A n c l r):=by
 have hlt:=h.lt;have HM0:Hid (∀ W,Below (w.alloc zeroX).heap.size (w.alloc zeroX) W→MidO b w W A n c l k):=Lib.hid fun W hb=>MidO.first h hb
 have KN:Hid (∀ w,RdC b w A n c l k→Calls Tryz.prog 72 #[.pointer (some ⟨b,0,none⟩)] w (NextP w t)):=Lib.hid fun w h=>by rw[←ht];exact next_any b w A n c l k h hf hk
 have H1:=Lib.hid (HM0.out _ (Below.refl _ _)).rd;unfold NextP at KN;obtain⟨S,hS⟩:∃ S:ByteArray,S=⟨(sg l k).toArray⟩:=⟨_,rfl⟩;have KS:Hid (∀ w,RdC b w A n c l k→Calls Tryz.prog 50 #[.pointer (some ⟨b,0,none⟩)] w fun e w'=>e= .returned (.string S)∧Below w.heap.size w w'):=Lib.hid fun w h=>by rw[hS];exact nextsign_any b w A n c l k h hf hk
 obtain⟨x,hx⟩:∃ x,x=t.kind:=⟨_,rfl⟩;have q2:(x==2)=false:=by rw[hx];simpa using h2
 have q6:(x==6)=false:=by rw[hx];simpa using h6
 rw[←hx] at KN;have K:=Lib.hid HK;obtain⟨s0,s1,s2⟩:=sgt_of l k S hS;rw[hs] at s0 s1 s2;clear h hf hk ht h2 h6 hx HK hS hs;go_enter Tryz.func49,Tryz.ntmps49;go_wp2_with (first | (go_at_call 72;go_must ((with_reducible refine(KN.out _ H1.out).mono ?_);rintro e w1 ⟨A1,c1,rfl,hb1⟩;have HM:=Lib.hid (HM0.out _ hb1);clear hb1)) | (go_at_call 50;go_must ((with_reducible refine(KS.out _ (HM.out.low hlt (one_boxX _ _)).rd).mono ?_);rintro e w3 ⟨rfl,hb3⟩;have HM3:=Lib.hid ((HM.out.low hlt (one_boxX _ _)).low hlt hb3);clear hb3)) | (go_at_call 74;go_must ((with_reducible refine(K.out _ HM3.out.rd).mono ?_);rintro e w4 hp;obtain⟨v0,v1,v2,v3,A4,n4,c4,er,rfl,HP⟩:=hp.form;have HBX:=Lib.hid (HM3.out.boxQ.grown hp.1 (by omega));clear hp;obtain⟨d0,d1,d2,d3,d4,_⟩:=HBX.out;obtain⟨e0,e1,e2,e3,e4⟩:=HBX.out.freed)));obtain⟨W3,hW3⟩:∃ W3,W3=put5 w4 w.heap.size (.int .i64 v0) (.int .i64 v1) (.string v2) (.string v3) (.slice A4 n4 c4):=⟨_,rfl⟩;have HE:=postc_pass HP.out hlt HM3.out.grown HM3.out.size hW3;have HX:=HBX.out.put (.int .i64 v0) (.int .i64 v1) (.string v2) (.string v3) (.slice A4 n4 c4);rw[←hW3] at HX;unfold put5 at hW3;rw[←hW3];clear hW3 d0 d1 d2 d3 d4;obtain⟨d0,d1,d2,d3,d4,_⟩:=HX;exact bodyPost_ret (v:= .tuple #[.agg #[.int .i64 v0,.int .i64 v1,.string v2,.string v3,.slice A4 n4 c4],.int .i64 er]) (by simp[results,Tryz.results49,go_sem,d0,d1,d2,d3,d4]) rfl HE
theorem operand_none (b:Nat) (w:World) (A:Option Addr) (n c:Nat) (l:List Tok) (k d:Nat) (h:RdC b w A n c l k) (hf:FitL l) (hk:k≤n) (t:Tok) (ht:nxt l k=t) (h2:t.kind≠2) (h6:t.kind≠6) (hs:¬ pre3 (sg l k)):
  Calls Tryz.prog 49 #[.pointer (some ⟨b,0,none⟩),.int .i64 d] w (PostC b w A n c l (.bad k 1)):=by
 have hlt:=h.lt;have HM0:Hid (∀ W,Below (w.alloc zeroX).heap.size (w.alloc zeroX) W→MidO b w W A n c l k):=Lib.hid fun W hb=>MidO.first h hb
 have KN:Hid (∀ w,RdC b w A n c l k→Calls Tryz.prog 72 #[.pointer (some ⟨b,0,none⟩)] w (NextP w t)):=Lib.hid fun w h=>by rw[←ht];exact next_any b w A n c l k h hf hk
 have H1:=Lib.hid (HM0.out _ (Below.refl _ _)).rd;unfold NextP at KN;obtain⟨S,hS⟩:∃ S:ByteArray,S=⟨(sg l k).toArray⟩:=⟨_,rfl⟩;have KS:Hid (∀ w,RdC b w A n c l k→Calls Tryz.prog 50 #[.pointer (some ⟨b,0,none⟩)] w fun e w'=>e= .returned (.string S)∧Below w.heap.size w w'):=Lib.hid fun w h=>by rw[hS];exact nextsign_any b w A n c l k h hf hk
 obtain⟨x,hx⟩:∃ x,x=t.kind:=⟨_,rfl⟩;have q2:(x==2)=false:=by rw[hx];simpa using h2
 have q6:(x==6)=false:=by rw[hx];simpa using h6
 rw[←hx] at KN;obtain⟨s0,s1,s2⟩:=sgt_of l k S hS;rw[decide_eq_false (fun e=>hs (.inl e))] at s0;rw[decide_eq_false (fun e=>hs (.inr (.inl e)))] at s1;rw[decide_eq_false (fun e=>hs (.inr (.inr e)))] at s2;clear h hf hk ht h2 h6 hx hS hs;go_enter Tryz.func49,Tryz.ntmps49;go_wp2_with (first | (go_at_call 72;go_must ((with_reducible refine(KN.out _ H1.out).mono ?_);rintro e w1 ⟨A1,c1,rfl,hb1⟩;have HM:=Lib.hid (HM0.out _ hb1);clear hb1)) | (go_at_call 50;go_must ((with_reducible refine(KS.out _ (HM.out.low hlt (one_boxX _ _)).rd).mono ?_);rintro e w3 ⟨rfl,hb3⟩;have HM3:=Lib.hid ((HM.out.low hlt (one_boxX _ _)).low hlt hb3);clear hb3;obtain⟨d0,d1,d2,d3,d4,_⟩:=HM3.out.boxQ;obtain⟨e0,e1,e2,e3,e4⟩:=HM3.out.boxQ.freed)));obtain⟨W3,hW3⟩:∃ W3,W3=put5 w3 w.heap.size (.int .i64 0) (.int .i64 0) (.string ⟨#[]⟩) (.string ⟨#[]⟩) (.slice none 0 0):=⟨_,rfl⟩;have HE:EndQ b w.heap.size w W3 A n c l k (.int .i64 0) (.int .i64 0) (.string ⟨#[]⟩) (.string ⟨#[]⟩) (.slice none 0 0):=end_q hlt (Nat.le_refl _) HM3.out.boxQ HM3.out.grown HM3.out.rd (by rw[hW3];exact Below.refl _ _);unfold put5 at hW3;rw[←hW3];clear hW3 d0 d1 d2 d3 d4;obtain⟨d0,d1,d2,d3,d4,_⟩:=HE.box;exact bodyPost_ret (v:= .tuple #[.agg #[.int .i64 0,.int .i64 0,.string ⟨#[]⟩,.string ⟨#[]⟩,.slice none 0 0],.int .i64 1]) (by simp[results,Tryz.results49,go_sem,d0,d1,d2,d3,d4]) rfl ⟨HE.grown,rfl,HE.rd⟩
end Go.Proofs.YthghbdeaenjckaaGreatDoor
