import Derived.Test.YtfgcdppebeojbaaGreatDoorSc41
import Derived.Test.YtfgcdppebeojbaaGreatDoorPlainC
namespace Go.Proofs.YtfgcdppebeojbaaGreatDoor
open Go Go.RowKit
set_option maxRecDepth 100000
set_option maxHeartbeats 8000000
theorem oneV (w:World) (vs:List Value) (h:0<vs.length) (T:TypeId):Hid (∀ W',Below (w.alloc (.cells vs.toArray T)).heap.size (w.alloc (.cells vs.toArray T)) W'→BoxL W' w.heap.size vs)∧Hid (Below w.heap.size w (w.alloc (.cells vs.toArray T))):=⟨Lib.hid (one_box13 w vs h T),Lib.hid (one_boxX w _)⟩
theorem same_none (X:Option Addr) (cx:Nat) (w:World):Calls Tryz.prog 131 #[.agg #[.int .i64 0,.int .i64 0,.string ⟨#[]⟩,.string ⟨#[]⟩,.slice X 0 cx],.agg #[.int .i64 0,.int .i64 0,.string ⟨#[]⟩,.string ⟨#[]⟩,.slice none 0 0]] w fun e w'=>e= .returned (.bool true)∧Below w.heap.size w w':=by
 have:=csame_any exNone exNone X none cx 0 w (KidsX.leaf _ _ _ _ _ _ _) (KidsX.leaf _ _ _ _ _ _ _) (by decide) (by decide);rw[eqB_yes rfl] at this;exact this
theorem holds_0 (kd:Int) (P X B E U:Option Addr) (cp cx cb ce cu:Nat) (pl:Int) (w:World):Calls Tryz.prog 105 #[.agg #[.int .i64 kd,.string ⟨#[]⟩,.int .i64 0,.slice P 0 cp,.int .i64 0,.int .i64 0,.string ⟨#[]⟩,.string ⟨#[]⟩,.slice X 0 cx,.slice B 0 cb,.slice E 0 ce,.slice U 0 cu,.int .i64 pl],.int .i64 0] w fun e w'=>e= .returned (.bool true)∧Below w.heap.size w w':=by
 have KS:Hid (∀ X cx w',Calls Tryz.prog 131 #[.agg #[.int .i64 0,.int .i64 0,.string ⟨#[]⟩,.string ⟨#[]⟩,.slice X 0 cx],.agg #[.int .i64 0,.int .i64 0,.string ⟨#[]⟩,.string ⟨#[]⟩,.slice none 0 0]] w' fun e w2=>e= .returned (.bool true)∧Below w'.heap.size w' w2):=Lib.hid same_none;obtain⟨HBX,HN⟩:=oneV w [.int .i64 kd,.string ⟨#[]⟩,.int .i64 0,.slice P 0 cp,.int .i64 0,.int .i64 0,.string ⟨#[]⟩,.string ⟨#[]⟩,.slice X 0 cx,.slice B 0 cb,.slice E 0 ce,.slice U 0 cu,.int .i64 pl] (by simp) 67;have hsz:((⟨#[]⟩:ByteArray)==⟨#[]⟩)=true:=by decide
 go_enter Tryz.func105,Tryz.ntmps105;go_wp2_with (go_at_call 131;go_must ((with_reducible refine(KS.out _ _ _).mono ?_);rintro e w3 ⟨rfl,hb3⟩;have HT:=Lib.hid hb3;obtain⟨_,_,_,_,_,_,_,_,_,y9,y10,y11,_⟩:=(HBX.out _ hb3).all13;clear hb3));go_ret;exact⟨rfl,HN.out.trans (HT.out.mono HN.out.size)⟩
theorem holds_56 (kd:Int) (xk xn:Int) (X1 X2:ByteArray) (nx:Nat) (nb:Nat) (ne:Nat) (P X B E U:Option Addr) (cp cx cb ce cu:Nat) (pl:Int) (w:World):Calls Tryz.prog 105 #[.agg #[.int .i64 kd,.string ⟨#[]⟩,.int .i64 0,.slice P 0 cp,.int .i64 xk,.int .i64 xn,.string X1,.string X2,.slice X nx cx,.slice B nb cb,.slice E ne ce,.slice U 0 cu,.int .i64 pl],.int .i64 56] w fun e w'=>e= .returned (.bool true)∧Below w.heap.size w w':=by
 have KS:Hid (∀ X cx w',Calls Tryz.prog 131 #[.agg #[.int .i64 0,.int .i64 0,.string ⟨#[]⟩,.string ⟨#[]⟩,.slice X 0 cx],.agg #[.int .i64 0,.int .i64 0,.string ⟨#[]⟩,.string ⟨#[]⟩,.slice none 0 0]] w' fun e w2=>e= .returned (.bool true)∧Below w'.heap.size w' w2):=Lib.hid same_none;obtain⟨HBX,HN⟩:=oneV w [.int .i64 kd,.string ⟨#[]⟩,.int .i64 0,.slice P 0 cp,.int .i64 xk,.int .i64 xn,.string X1,.string X2,.slice X nx cx,.slice B nb cb,.slice E ne ce,.slice U 0 cu,.int .i64 pl] (by simp) 67;have hsz:((⟨#[]⟩:ByteArray)==⟨#[]⟩)=true:=by decide
 go_enter Tryz.func105,Tryz.ntmps105;go_wp2;go_ret;exact⟨rfl,HN.out⟩
def okRu (k q pk:Int) (pt:Bs):Prop:=(k=1∧ -1≤q∧(pk=0∨pk=1∨pk=2))∨(k=3∧ -1≤q∧pk=0∧pt=[])∨((k=2∨k=4)∧q= -1∧pk=0∧pt=[])
theorem later_bw {P:Program} {f:FuncId} {args:Array Value} {v:Value} {w W:World} (h:∀ w',Below w.heap.size w w'→Calls P f args w' fun e w2=>e= .returned v∧Below w'.heap.size w' w2) (hb:Below w.heap.size w W) (n:Bw W):
 Calls P f args n.at fun e w''=>e= .returned v∧∃ m:Bw W,w''=m.at:=bw_calls (h n.at (hb.trans (n.2.mono hb.size)))
theorem all_bw {P:Program} {f:FuncId} {args:Array Value} {v:Value} {W:World} (h:∀ w',Calls P f args w' fun e w2=>e= .returned v∧Below w'.heap.size w' w2) (n:Bw W):
 Calls P f args n.at fun e w''=>e= .returned v∧∃ m:Bw W,w''=m.at:=bw_calls (h n.at)
theorem bw13 {W:World} {c:Nat} {v0 v1 v2 v3 v4 v5 v6 v7 v8 v9 v10 v11 v12:Value} (h:BoxL W c [v0,v1,v2,v3,v4,v5,v6,v7,v8,v9,v10,v11,v12]):(∀ n:Bw W,n.at.cell? ⟨c,0,none⟩=some v0)∧(∀ n:Bw W,n.at.cell? ⟨c,1,none⟩=some v1)∧(∀ n:Bw W,n.at.cell? ⟨c,2,none⟩=some v2)∧(∀ n:Bw W,n.at.cell? ⟨c,3,none⟩=some v3)∧(∀ n:Bw W,n.at.cell? ⟨c,4,none⟩=some v4)∧(∀ n:Bw W,n.at.cell? ⟨c,5,none⟩=some v5)∧(∀ n:Bw W,n.at.cell? ⟨c,6,none⟩=some v6)∧(∀ n:Bw W,n.at.cell? ⟨c,7,none⟩=some v7)∧(∀ n:Bw W,n.at.cell? ⟨c,8,none⟩=some v8)∧(∀ n:Bw W,n.at.cell? ⟨c,9,none⟩=some v9)∧(∀ n:Bw W,n.at.cell? ⟨c,10,none⟩=some v10)∧(∀ n:Bw W,n.at.cell? ⟨c,11,none⟩=some v11)∧(∀ n:Bw W,n.at.cell? ⟨c,12,none⟩=some v12):=
 have ⟨y0,y1,y2,y3,y4,y5,y6,y7,y8,y9,y10,y11,y12⟩:=h.all13
 ⟨bw_cell y0,bw_cell y1,bw_cell y2,bw_cell y3,bw_cell y4,bw_cell y5,bw_cell y6,bw_cell y7,bw_cell y8,bw_cell y9,bw_cell y10,bw_cell y11,bw_cell y12⟩
theorem mayb_4 (xk xn:Int) (X1 X2:ByteArray) (nx:Nat) (nb:Nat) (ne:Nat) (P X B E U:Option Addr) (cp cx cb ce cu:Nat) (pl:Int) (o:Int) (w:World) (KX:Hid (∀ w',Below w.heap.size w w'→Calls Tryz.prog 109 #[.agg #[.int .i64 xk,.int .i64 xn,.string X1,.string X2,.slice X nx cx]] w' fun e w2=>e= .returned (.bool true)∧Below w'.heap.size w' w2)) (KB:Hid (∀ w',Below w.heap.size w w'→Calls Tryz.prog 110 #[.slice B nb cb,.int .i64 o] w' fun e w2=>e= .returned (.bool true)∧Below w'.heap.size w' w2)) (KE:Hid (∀ w',Below w.heap.size w w'→Calls Tryz.prog 110 #[.slice E ne ce,.int .i64 o] w' fun e w2=>e= .returned (.bool true)∧Below w'.heap.size w' w2)):
  Calls Tryz.prog 76 #[.agg #[.int .i64 4,.string ⟨#[]⟩,.int .i64 0,.slice P 0 cp,.int .i64 xk,.int .i64 xn,.string X1,.string X2,.slice X nx cx,.slice B nb cb,.slice E ne ce,.slice U 0 cu,.int .i64 pl],.int .i64 o] w fun e w'=>e= .returned (.bool true)∧Below w.heap.size w w':=by
 have KO:FofC 4 ⟨#[105,102]⟩ 56:=Lib.hid fun w'=>sform_any 4 (by omega) w'
 unfold FofC at KO;have KH:Hid (∀ w',Calls Tryz.prog 105 #[.agg #[.int .i64 4,.string ⟨#[]⟩,.int .i64 0,.slice P 0 cp,.int .i64 xk,.int .i64 xn,.string X1,.string X2,.slice X nx cx,.slice B nb cb,.slice E ne ce,.slice U 0 cu,.int .i64 pl],.int .i64 56] w' fun e w2=>e= .returned (.bool true)∧Below w'.heap.size w' w2):=Lib.hid (holds_56 4 xk xn X1 X2 nx nb ne P X B E U cp cx cb ce cu pl);obtain⟨HBX,HN⟩:=oneV w [.int .i64 4,.string ⟨#[]⟩,.int .i64 0,.slice P 0 cp,.int .i64 xk,.int .i64 xn,.string X1,.string X2,.slice X nx cx,.slice B nb cb,.slice E ne ce,.slice U 0 cu,.int .i64 pl] (by simp) 67;go_enter Tryz.func76,Tryz.ntmps76;go_wp2_with (go_at_call 104;go_must ((with_reducible refine(KO.out _).mono ?_);rintro e w1 ⟨rfl,rfl⟩));obtain⟨V,hV⟩:∃ V,V=(w.alloc (.cells #[.int .i64 4,.string ⟨#[]⟩,.int .i64 0,.slice P 0 cp,.int .i64 xk,.int .i64 xn,.string X1,.string X2,.slice X nx cx,.slice B nb cb,.slice E ne ce,.slice U 0 cu,.int .i64 pl] 67)):=⟨_,rfl⟩;rw[←hV] at HBX HN ⊢;clear hV;have e1:bits BinOp.and IntKind.i64 56 1=0:=by rfl
 have e2:bits BinOp.and IntKind.i64 56 2=0:=by rfl
 have e4:bits BinOp.and IntKind.i64 56 4=0:=by rfl
 have e8:bits BinOp.and IntKind.i64 56 8=8:=by rfl
 have e16:bits BinOp.and IntKind.i64 56 16=16:=by rfl
 have e32:bits BinOp.and IntKind.i64 56 32=32:=by rfl
 have e64:bits BinOp.and IntKind.i64 56 64=0:=by rfl
 have hne:=bw_some V;obtain⟨p0,p1,p2,p3,p4,p5,p6,p7,p8,p9,p10,p11,p12⟩:=bw13 (HBX.out _ (Below.refl _ _));simp only[List.append_eq,List.cons_append,List.nil_append];refine wp_region_below (by kernel_rfl) (by kernel_rfl) ?_
 repeat (go_big_quiet_step (first | (go_at_call 105;with_reducible exact all_bw KH.out _) | (go_at_call 109;with_reducible exact later_bw KX.out HN.out _) | (go_at_call 110;with_reducible exact later_bw KB.out HN.out _) | (go_at_call 110;with_reducible exact later_bw KE.out HN.out _) | fail))
 refine wpQuiet_nil ?_;intro w5 hw5;obtain⟨m5,rfl⟩:=hw5;have B5:=Lib.hid m5.2;clear p0 p1 p2 p3 p4 p5 p6 p7 p8 p9 p10 p11 p12;go_wp2;go_ret;exact⟨rfl,HN.out.trans (B5.out.mono HN.out.size)⟩
theorem mayb_16 (P X B E U:Option Addr) (cp cx cb ce cu:Nat) (pl:Int) (o:Int) (w:World):
  Calls Tryz.prog 76 #[.agg #[.int .i64 16,.string ⟨#[]⟩,.int .i64 0,.slice P 0 cp,.int .i64 0,.int .i64 0,.string ⟨#[]⟩,.string ⟨#[]⟩,.slice X 0 cx,.slice B 0 cb,.slice E 0 ce,.slice U 0 cu,.int .i64 pl],.int .i64 o] w fun e w'=>e= .returned (.bool true)∧Below w.heap.size w w':=by
 have KO:FofC 16 ⟨#[101,120,105,116]⟩ 0:=Lib.hid fun w'=>sform_any 16 (by omega) w'
 unfold FofC at KO;have KH:Hid (∀ w',Calls Tryz.prog 105 #[.agg #[.int .i64 16,.string ⟨#[]⟩,.int .i64 0,.slice P 0 cp,.int .i64 0,.int .i64 0,.string ⟨#[]⟩,.string ⟨#[]⟩,.slice X 0 cx,.slice B 0 cb,.slice E 0 ce,.slice U 0 cu,.int .i64 pl],.int .i64 0] w' fun e w2=>e= .returned (.bool true)∧Below w'.heap.size w' w2):=Lib.hid (holds_0 16 P X B E U cp cx cb ce cu pl);obtain⟨HBX,HN⟩:=oneV w [.int .i64 16,.string ⟨#[]⟩,.int .i64 0,.slice P 0 cp,.int .i64 0,.int .i64 0,.string ⟨#[]⟩,.string ⟨#[]⟩,.slice X 0 cx,.slice B 0 cb,.slice E 0 ce,.slice U 0 cu,.int .i64 pl] (by simp) 67;go_enter Tryz.func76,Tryz.ntmps76;go_wp2_with (go_at_call 104;go_must ((with_reducible refine(KO.out _).mono ?_);rintro e w1 ⟨rfl,rfl⟩));obtain⟨V,hV⟩:∃ V,V=(w.alloc (.cells #[.int .i64 16,.string ⟨#[]⟩,.int .i64 0,.slice P 0 cp,.int .i64 0,.int .i64 0,.string ⟨#[]⟩,.string ⟨#[]⟩,.slice X 0 cx,.slice B 0 cb,.slice E 0 ce,.slice U 0 cu,.int .i64 pl] 67)):=⟨_,rfl⟩;rw[←hV] at HBX HN ⊢;clear hV;have e1:bits BinOp.and IntKind.i64 0 1=0:=by rfl
 have e2:bits BinOp.and IntKind.i64 0 2=0:=by rfl
 have e4:bits BinOp.and IntKind.i64 0 4=0:=by rfl
 have e8:bits BinOp.and IntKind.i64 0 8=0:=by rfl
 have e16:bits BinOp.and IntKind.i64 0 16=0:=by rfl
 have e32:bits BinOp.and IntKind.i64 0 32=0:=by rfl
 have e64:bits BinOp.and IntKind.i64 0 64=0:=by rfl
 have hne:=bw_some V;obtain⟨p0,p1,p2,p3,p4,p5,p6,p7,p8,p9,p10,p11,p12⟩:=bw13 (HBX.out _ (Below.refl _ _));simp only[List.append_eq,List.cons_append,List.nil_append];refine wp_region_below (by kernel_rfl) (by kernel_rfl) ?_
 repeat (go_big_quiet_step (first | (go_at_call 105;with_reducible exact all_bw KH.out _) | fail))
 refine wpQuiet_nil ?_;intro w5 hw5;obtain⟨m5,rfl⟩:=hw5;have B5:=Lib.hid m5.2;clear p0 p1 p2 p3 p4 p5 p6 p7 p8 p9 p10 p11 p12;go_wp2;go_ret;exact⟨rfl,HN.out.trans (B5.out.mono HN.out.size)⟩
def okNm (nm:Bs):Prop:=isName nm=true∧nm.length≤1000000∧∀ c t,nm=c::t→c.toNat<48∨57<c.toNat
def okTx (ps:List Pt):Prop:=may false ps=true∧ps.length≤1000000∧∀ p∈ps,p.1.length≤1000000
def okCo (x:Ex):Prop:=mayX x 0=true∧nmX x≤1000000∧sizeX x≤1000000
mutual
inductive MyC:Int→Cm→Prop where
 | k1 {o nm ps p}:okNm nm→okTx ps→MyC o (.mk 1 nm 0 ps exNone [] [] [] p)
 | k2 {o nm x p}:okNm nm→okCo x→MyC o (.mk 2 nm 0 [] x [] [] [] p)
 | k3 {o nm n p}:okNm nm→ -9223372036854775807≤n→MyC o (.mk 3 nm n [] exNone [] [] [] p)
 | k4 {o x b e p}:okCo x→o<16→b.length≤1000000→e.length≤1000000→(∀ c∈b,MyC (o+1) c)→(∀ c∈e,MyC (o+1) c)→MyC o (.mk 4 [] 0 [] x b e [] p)
 | k5 {o x b p}:okCo x→o<16→b.length≤1000000→(∀ c∈b,MyC (o+1) c)→MyC o (.mk 5 [] 0 [] x b [] [] p)
 | k6 {o nm b p}:okNm nm→o<16→b.length≤1000000→(∀ c∈b,MyC (o+1) c)→MyC o (.mk 6 nm 0 [] exNone b [] [] p)
 | k7 {o nm p}:okNm nm→MyC o (.mk 7 nm 0 [] exNone [] [] [] p)
 | k8 {o n p}:0≤n→MyC o (.mk 8 [] n [] exNone [] [] [] p)
 | k9 {o n p}:0≤n→MyC o (.mk 9 [] n [] exNone [] [] [] p)
 | k10 {o ps p}:okTx ps→MyC o (.mk 10 [] 0 ps exNone [] [] [] p)
 | k11 {o n p}: -1≤n→MyC o (.mk 11 [] n [] exNone [] [] [] p)
 | k12 {o u p}:u≠[]→o<16→u.length≤1000000→(∀ r∈u,MyR (o+1) r)→MyC o (.mk 12 [] 0 [] exNone [] [] u p)
 | k13 {o u p}:u≠[]→o<16→u.length≤1000000→(∀ r∈u,MyR (o+1) r)→MyC o (.mk 13 [] 0 [] exNone [] [] u p)
 | k14 {o u p}:u≠[]→o<16→u.length≤1000000→(∀ r∈u,MyR (o+1) r)→MyC o (.mk 14 [] 0 [] exNone [] [] u p)
 | k15 {o p}:MyC o (.mk 15 [] 0 [] exNone [] [] [] p)
 | k16 {o p}:MyC o (.mk 16 [] 0 [] exNone [] [] [] p)
inductive MyR:Int→Ru→Prop where
 | mk {o k q pk pt b p}:okRu k q pk pt→o<16→b.length≤1000000→(∀ c∈b,MyC (o+1) c)→MyR o (.mk k q pk pt b p)
end
def PMc (c:Cm):Prop:=∀ (o:Int) (lk:Lk) (w:World),0≤o→o≤16→MyC o c→KidC (LtX w.heap.size) w lk c→Calls Tryz.prog 76 #[valC c lk,.int .i64 o] w fun e w'=>e= .returned (.bool true)∧Below w.heap.size w w'
theorem mstand_list (ks:List Cm) (ih:∀ x∈ks,PMc x) (o:Int) (A:Option Addr) (c:Nat) (w:World) (h0:0≤o) (h1:o≤16) (hy:∀ x∈ks,MyC o x) (hk:RowC (LtX w.heap.size) w A ks) (hl:ks.length≤1000000):
  Calls Tryz.prog 50 #[.slice A ks.length c,.int .i64 o] w fun e w'=>e= .returned (.bool true)∧Below w.heap.size w w':=by
 obtain⟨m,hm⟩:∃ m,m=ks.length:=⟨_,rfl⟩;rw[←hm] at hl ⊢;have HM:=Lib.hid hm;have HK:=Lib.hid hk;have HI:=Lib.hid ih;have HY:=Lib.hid hy;have H0:=Lib.hid (And.intro h0 h1);clear hm hk ih hy h0 h1;go_enter Tryz.func50,Tryz.ntmps50;go_wp2
 go_loopw [9] (fun i wr=>∃ j:Nat,j≤m∧i= .int .i64 j∧Below w.heap.size w wr) (fun i _=>m - (intOf i).toNat)
 case atStart=>exact⟨0,by omega,rfl,Below.refl _ _⟩
 case round=>
  obtain⟨j,hj,rfl,hb⟩:=hrel;obtain⟨V,hV⟩:∃ V,V=wr:=⟨_,rfl⟩;subst hV;have HB:=Lib.hid hb;by_cases a:j<m
  ·obtain⟨r,hr⟩:=getX_of_lt HM.out a
   obtain⟨ad,lk,rfl,hp,h9,hkr⟩:=rowC_at HK.out hb hr;obtain⟨lp,lcp,lx,lcx,lb,lcb,le,lce,lu,lcu⟩:=lk;have hmem:=List.mem_of_getElem? hr
   have KM:Hid (∀ w',Below V.heap.size V w'→Calls Tryz.prog 76 #[.agg #[.int .i64 r.kind,.string ⟨r.name.toArray⟩,.int .i64 r.n,.slice lp r.parts.length lcp,.int .i64 r.cond.kind,.int .i64 r.cond.n,.string ⟨r.cond.name.toArray⟩,.string ⟨r.cond.op.toArray⟩,.slice lx r.cond.kids.length lcx,.slice lb r.body.length lcb,.slice le r.els.length lce,.slice lu r.rules.length lcu,.int .i64 r.pl],.int .i64 o] w' fun e w2=>e= .returned (.bool true)∧Below w'.heap.size w' w2):=Lib.hid fun w' hw=>
    HI.out r hmem o ⟨lp,lcp,lx,lcx,lb,lcb,le,lce,lu,lcu⟩ w' H0.out.1 H0.out.2 (HY.out r hmem) ((hkr.of (fun _ h=>hb.cell h) fun _ h=>Nat.lt_of_lt_of_le h hb.size:KidC (LtX V.heap.size) V ⟨lp,lcp,lx,lcx,lb,lcb,le,lce,lu,lcu⟩ r).next hw)
   have hbt:(ad.add (j * 13)).block<V.heap.size:=by rw[blockX_add];have:=hb.size;omega
   have h9:LieL V (ad.add (j * 13)) [.int .i64 r.kind,.string ⟨r.name.toArray⟩,.int .i64 r.n,.slice lp r.parts.length lcp,.int .i64 r.cond.kind,.int .i64 r.cond.n,.string ⟨r.cond.name.toArray⟩,.string ⟨r.cond.op.toArray⟩,.slice lx r.cond.kids.length lcx,.slice lb r.body.length lcb,.slice le r.els.length lce,.slice lu r.rules.length lcu,.int .i64 r.pl]:=h9;obtain⟨c0,c1,c2,c3,c4,c5,c6,c7,c8,c9,c10,c11,c12⟩:=h9.at13;clear hr hmem hkr h9 hp hb;go_wp2_with (go_at_call 76;go_must ((with_reducible refine(KM.out _ (one_boxX V _)).mono ?_);rintro e w3 ⟨rfl,hb3⟩;have HB3:=Lib.hid ((one_boxX V _).trans (hb3.mono (by simp)));clear hb3))
   go_roundw
   case rel=>exact⟨j+1,by omega,by go_num,HB.out.trans (HB3.out.mono HB.out.size)⟩
   case measure=>simp[intOf];omega
  ·go_wp2
   go_ret;exact⟨rfl,HB.out⟩
theorem mblock_any (ks:List Cm) (ih:∀ x∈ks,PMc x) (o:Int) (A:Option Addr) (c:Nat) (w:World) (h0:0≤o) (h1:o<16) (hy:∀ x∈ks,MyC (o+1) x) (hk:RowC (LtX w.heap.size) w A ks) (hl:ks.length≤1000000):
  Calls Tryz.prog 110 #[.slice A ks.length c,.int .i64 o] w fun e w'=>e= .returned (.bool true)∧Below w.heap.size w w':=by
 have K:Hid (∀ w',Below w.heap.size w w'→Calls Tryz.prog 50 #[.slice A ks.length c,.int .i64 (o+1)] w' fun e w2=>e= .returned (.bool true)∧Below w'.heap.size w' w2):=Lib.hid fun w' hw=>mstand_list ks ih (o+1) A c w' (by omega) (by omega) hy (hk.next hw) hl
 generalize ks.length=n at K;clear hy hk ih hl;go_enter Tryz.func110,Tryz.ntmps110;go_wp2_with (go_at_call 50;go_must ((with_reducible refine(K.out _ (by first | exact Below.refl _ _ | exact(Below.refl _ _).drew)).mono ?_);rintro e w3 ⟨rfl,hb3⟩;have HB3:=Lib.hid hb3;clear hb3));go_ret;exact⟨rfl,HB3.out⟩
end Go.Proofs.YtfgcdppebeojbaaGreatDoor
