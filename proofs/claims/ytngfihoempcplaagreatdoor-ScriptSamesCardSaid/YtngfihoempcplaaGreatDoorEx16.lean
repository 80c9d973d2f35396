import Derived.Test.YtngfihoempcplaaGreatDoorTkN
import Derived.Deep.QuietTactic
import Derived.Deep.Slices
import Derived.RegionTactic
import Derived.BigQuiet
import Derived.Tactics2
import Derived.StillTactics
import Derived.Test.YtngfihoempcplaaGreatDoorQBelow
import Derived.Test.YtngfihoempcplaaGreatDoorName2
import Derived.Lib.Bytealg
import Derived.Deep.DeepMust
import Derived.Deep.RegionHeld3
namespace Go.Proofs.YtngfihoempcplaaGreatDoor
open Go Go.RowKit
set_option maxRecDepth 100000
set_option maxHeartbeats 4000000
inductive Ex where
 | mk (kind n:Int) (name op:Bs) (kids:List Ex):Ex
theorem Ex.ind {P:Ex→Prop} (h:∀ k n nm op ks,(∀ r∈ks,P r)→P (.mk k n nm op ks)):∀ r,P r:=by
 intro r;refine Ex.rec (motive_1:=P) (motive_2:=fun l=>∀ r∈l,P r) ?_ ?_ ?_ r
 ·intro k n nm op ks ih;exact h k n nm op ks ih
 ·intro r hr;cases hr
 ·intro a l ha hl r hr
  rcases List.mem_cons.1 hr with rfl | hr
  ·exact ha
  ·exact hl r hr
def Ex.kind:Ex→Int | .mk k _ _ _ _=>k
def Ex.n:Ex→Int | .mk _ n _ _ _=>n
def Ex.name:Ex→Bs | .mk _ _ nm _ _=>nm
def Ex.op:Ex→Bs | .mk _ _ _ op _=>op
def Ex.kids:Ex→List Ex | .mk _ _ _ _ ks=>ks
def exNone:Ex:= .mk 0 0 [] [] []
def exNum (n:Int):Ex:= .mk 0 n [] [] []
def exVar (w:Bs):Ex:= .mk 1 0 w [] []
def exNeg (x:Ex):Ex:= .mk 2 0 [] [] [x]
def exNot (x:Ex):Ex:= .mk 3 0 [] [] [x]
def exBin (op:Bs) (x y:Ex):Ex:= .mk 4 0 [] op [x,y]
def strong (op:Bs):Nat:=
 if op=[124,124] then 1 else if op=[38,38] then 2 else if op=[61,61]∨op=[33,61] then 3
 else if op=[60]∨op=[62]∨op=[60,61]∨op=[62,61] then 4 else if op=[43]∨op=[45] then 5
 else if op=[42]∨op=[47]∨op=[37] then 6 else 0
theorem strong_le (op:Bs):strong op≤6:=by unfold strong;repeat' split
                                          all_goals omega
theorem strong_nil:strong []=0:=by decide
def sg (l:List Tok) (i:Nat):Bs:=match l[i]? with
 | some t=>if t.kind=4 then t.word else []
 | none=>[]
inductive Rs where
 | ok (x:Ex) (at_:Nat):Rs
 | bad (at_:Nat) (e:Nat):Rs
inductive Md where
 | one:Md
 | some (least:Nat):Md
 | loop (least:Nat) (x:Ex):Md
def pre3 (w:Bs):Prop:=w=[45]∨w=[33]∨w=[40]
inductive RdE (l:List Tok):Md→Nat→Nat→Rs→Prop
 | deep {i d}:pre3 (sg l i)→64≤d→RdE l .one i d (.bad i 8)
 | par {i d x j}:sg l i=[40]→d<64→RdE l (.some 1) (i+1) (d+1) (.ok x j)→sg l j=[41]→RdE l .one i d (.ok x (j+1))
 | parOpen {i d x j}:sg l i=[40]→d<64→RdE l (.some 1) (i+1) (d+1) (.ok x j)→sg l j≠[41]→RdE l .one i d (.bad j 1)
 | parBad {i d j e}:sg l i=[40]→d<64→RdE l (.some 1) (i+1) (d+1) (.bad j e)→RdE l .one i d (.bad j e)
 | neg {i d x j}:sg l i=[45]→d<64→RdE l .one (i+1) (d+1) (.ok x j)→RdE l .one i d (.ok (exNeg x) j)
 | not {i d x j}:sg l i=[33]→d<64→RdE l .one (i+1) (d+1) (.ok x j)→RdE l .one i d (.ok (exNot x) j)
 | unBad {i d j e}:sg l i=[45]∨sg l i=[33]→d<64→RdE l .one (i+1) (d+1) (.bad j e)→RdE l .one i d (.bad j e)
 | num {i d t}:l[i]?=some t→t.kind=2→RdE l .one i d (.ok (exNum t.n) (i+1))
 | var {i d t}:l[i]?=some t→t.kind=6→RdE l .one i d (.ok (exVar t.word) (i+1))
 | none {i d}:¬ pre3 (sg l i)→(∀ t,l[i]?=some t→t.kind≠2∧t.kind≠6)→RdE l .one i d (.bad i 1)
 | some {m i d x j r}:RdE l .one i d (.ok x j)→RdE l (.loop m x) j d r→RdE l (.some m) i d r
 | someBad {m i d j e}:RdE l .one i d (.bad j e)→RdE l (.some m) i d (.bad j e)
 | stop {m x i d}:strong (sg l i)<m→RdE l (.loop m x) i d (.ok x i)
 | opDeep {m x i d}:m≤strong (sg l i)→64≤d→RdE l (.loop m x) i d (.bad i 8)
 | op {m x i d y k r}:m≤strong (sg l i)→d<64→RdE l (.some (strong (sg l i)+1)) (i+1) (d+1) (.ok y k)→RdE l (.loop m (exBin (sg l i) x y)) k d r→RdE l (.loop m x) i d r
 | opBad {m x i d j e}:m≤strong (sg l i)→d<64→RdE l (.some (strong (sg l i)+1)) (i+1) (d+1) (.bad j e)→RdE l (.loop m x) i d (.bad j e)
theorem sg_kind {l:List Tok} {i:Nat} {t:Tok} (h:l[i]?=some t) (hk:t.kind≠4):sg l i=[]:=by unfold sg;rw[h];exact if_neg hk
theorem sg_at {l:List Tok} {i:Nat} (h:sg l i≠[]):∃ t,l[i]?=some t∧t.kind=4∧sg l i=t.word:=by
 unfold sg at h ⊢
 cases ht:l[i]? with
 | none=>rw[ht] at h;exact absurd rfl h
 | some t=>
   rw[ht] at h;by_cases hk:t.kind=4
   ·exact⟨t,rfl,hk,if_pos hk⟩
   ·exact absurd (if_neg hk) h
theorem sg_lt {l:List Tok} {i:Nat} (h:sg l i≠[]):i<l.length:=by
 obtain⟨t,ht,_⟩:=sg_at h;exact(List.getElem?_eq_some_iff.1 ht).1
theorem sg_past {l:List Tok} {i:Nat} (h:¬ i<l.length):sg l i=[]:=by unfold sg;rw[List.getElem?_eq_none (by omega)]
theorem strong_sg_lt {l:List Tok} {i m:Nat} (hm:1≤m) (h:m≤strong (sg l i)):i<l.length:=sg_lt fun e=>by rw[e,strong_nil] at h;omega
theorem RdE.det {l:List Tok} {m:Md} {i d:Nat} {r:Rs} (h:RdE l m i d r):∀ {r'},RdE l m i d r'→r=r':=by
 have n40:([40]:Bs)≠[45]:=by decide
 have n33:([40]:Bs)≠[33]:=by decide
 have n45:([45]:Bs)≠[33]:=by decide
 induction h with
 | deep h1 h2=>
   intro r' h'
   cases h' with
   | deep=>rfl
   | par=>omega
   | parOpen=>omega
   | parBad=>omega
   | neg=>omega
   | not=>omega
   | unBad=>omega
   | num h3 h4=>rw[sg_kind h3 (by omega)] at h1;simp[pre3] at h1
   | var h3 h4=>rw[sg_kind h3 (by omega)] at h1;simp[pre3] at h1
   | none h3=>exact absurd h1 h3
 | par h1 h2 h3 h4 ih=>
   intro r' h'
   cases h' with
   | deep=>omega
   | par _ _ k3=>cases ih k3;rfl
   | parOpen _ _ k3 k4=>cases ih k3;exact absurd h4 k4
   | parBad _ _ k3=>cases ih k3
   | neg k1=>rw[h1] at k1;exact absurd k1 n40
   | not k1=>rw[h1] at k1;exact absurd k1 n33
   | unBad k1=>rw[h1] at k1;rcases k1 with k1 | k1 <;> simp at k1
   | num k3 k4=>rw[sg_kind k3 (by omega)] at h1;cases h1
   | var k3 k4=>rw[sg_kind k3 (by omega)] at h1;cases h1
   | none k3=>exact absurd (.inr (.inr h1)) k3
 | parOpen h1 h2 h3 h4 ih=>
   intro r' h'
   cases h' with
   | deep=>omega
   | par _ _ k3 k4=>cases ih k3;exact absurd k4 h4
   | parOpen _ _ k3 k4=>cases ih k3;rfl
   | parBad _ _ k3=>cases ih k3
   | neg k1=>rw[h1] at k1;exact absurd k1 n40
   | not k1=>rw[h1] at k1;exact absurd k1 n33
   | unBad k1=>rw[h1] at k1;rcases k1 with k1 | k1 <;> simp at k1
   | num k3 k4=>rw[sg_kind k3 (by omega)] at h1;cases h1
   | var k3 k4=>rw[sg_kind k3 (by omega)] at h1;cases h1
   | none k3=>exact absurd (.inr (.inr h1)) k3
 | parBad h1 h2 h3 ih=>
   intro r' h'
   cases h' with
   | deep=>omega
   | par _ _ k3 k4=>cases ih k3
   | parOpen _ _ k3 k4=>cases ih k3
   | parBad _ _ k3=>cases ih k3;rfl
   | neg k1=>rw[h1] at k1;exact absurd k1 n40
   | not k1=>rw[h1] at k1;exact absurd k1 n33
   | unBad k1=>rw[h1] at k1;rcases k1 with k1 | k1 <;> simp at k1
   | num k3 k4=>rw[sg_kind k3 (by omega)] at h1;cases h1
   | var k3 k4=>rw[sg_kind k3 (by omega)] at h1;cases h1
   | none k3=>exact absurd (.inr (.inr h1)) k3
 | neg h1 h2 h3 ih=>
   intro r' h'
   cases h' with
   | deep=>omega
   | par k1=>rw[h1] at k1;exact absurd k1.symm n40
   | parOpen k1=>rw[h1] at k1;exact absurd k1.symm n40
   | parBad k1=>rw[h1] at k1;exact absurd k1.symm n40
   | neg _ _ k3=>cases ih k3;rfl
   | not k1=>rw[h1] at k1;exact absurd k1 n45
   | unBad _ _ k3=>cases ih k3
   | num k3 k4=>rw[sg_kind k3 (by omega)] at h1;cases h1
   | var k3 k4=>rw[sg_kind k3 (by omega)] at h1;cases h1
   | none k3=>exact absurd (.inl h1) k3
 | not h1 h2 h3 ih=>
   intro r' h'
   cases h' with
   | deep=>omega
   | par k1=>rw[h1] at k1;exact absurd k1.symm n33
   | parOpen k1=>rw[h1] at k1;exact absurd k1.symm n33
   | parBad k1=>rw[h1] at k1;exact absurd k1.symm n33
   | neg k1=>rw[h1] at k1;exact absurd k1.symm n45
   | not _ _ k3=>cases ih k3;rfl
   | unBad _ _ k3=>cases ih k3
   | num k3 k4=>rw[sg_kind k3 (by omega)] at h1;cases h1
   | var k3 k4=>rw[sg_kind k3 (by omega)] at h1;cases h1
   | none k3=>exact absurd (.inr (.inl h1)) k3
 | unBad h1 h2 h3 ih=>
   intro r' h'
   cases h' with
   | deep=>omega
   | par k1=>rw[k1] at h1;rcases h1 with h1 | h1 <;> simp at h1
   | parOpen k1=>rw[k1] at h1;rcases h1 with h1 | h1 <;> simp at h1
   | parBad k1=>rw[k1] at h1;rcases h1 with h1 | h1 <;> simp at h1
   | neg _ _ k3=>cases ih k3
   | not _ _ k3=>cases ih k3
   | unBad _ _ k3=>cases ih k3;rfl
   | num k3 k4=>rw[sg_kind k3 (by omega)] at h1;rcases h1 with h1 | h1 <;> cases h1
   | var k3 k4=>rw[sg_kind k3 (by omega)] at h1;rcases h1 with h1 | h1 <;> cases h1
   | none k3=>exact absurd (by rcases h1 with h1 | h1;exact .inl h1;exact .inr (.inl h1)) k3
 | num h1 h2=>
   intro r' h';have h0:=sg_kind h1 (by omega)
   cases h' with
   | deep k1=>rw[h0] at k1;simp[pre3] at k1
   | par k1=>rw[h0] at k1;cases k1
   | parOpen k1=>rw[h0] at k1;cases k1
   | parBad k1=>rw[h0] at k1;cases k1
   | neg k1=>rw[h0] at k1;cases k1
   | not k1=>rw[h0] at k1;cases k1
   | unBad k1=>rw[h0] at k1;rcases k1 with k1 | k1 <;> cases k1
   | num k1 k2=>rw[h1] at k1;cases k1;rfl
   | var k1 k2=>rw[h1] at k1;cases k1;omega
   | none _ k2=>exact absurd h2 (k2 _ h1).1
 | var h1 h2=>
   intro r' h';have h0:=sg_kind h1 (by omega)
   cases h' with
   | deep k1=>rw[h0] at k1;simp[pre3] at k1
   | par k1=>rw[h0] at k1;cases k1
   | parOpen k1=>rw[h0] at k1;cases k1
   | parBad k1=>rw[h0] at k1;cases k1
   | neg k1=>rw[h0] at k1;cases k1
   | not k1=>rw[h0] at k1;cases k1
   | unBad k1=>rw[h0] at k1;rcases k1 with k1 | k1 <;> cases k1
   | num k1 k2=>rw[h1] at k1;cases k1;omega
   | var k1 k2=>rw[h1] at k1;cases k1;rfl
   | none _ k2=>exact absurd h2 (k2 _ h1).2
 | none h1 h2=>
   intro r' h'
   cases h' with
   | deep k1=>exact absurd k1 h1
   | par k1=>exact absurd (.inr (.inr k1)) h1
   | parOpen k1=>exact absurd (.inr (.inr k1)) h1
   | parBad k1=>exact absurd (.inr (.inr k1)) h1
   | neg k1=>exact absurd (.inl k1) h1
   | not k1=>exact absurd (.inr (.inl k1)) h1
   | unBad k1=>exact absurd (by rcases k1 with k1 | k1;exact .inl k1;exact .inr (.inl k1)) h1
   | num k1 k2=>exact absurd k2 (h2 _ k1).1
   | var k1 k2=>exact absurd k2 (h2 _ k1).2
   | none=>rfl
 | some h1 h2 ih1 ih2=>
   intro r' h'
   cases h' with
   | some k1 k2=>cases ih1 k1;exact ih2 k2
   | someBad k1=>cases ih1 k1
 | someBad h1 ih=>
   intro r' h'
   cases h' with
   | some k1=>cases ih k1
   | someBad k1=>cases ih k1;rfl
 | stop h1=>
   intro r' h'
   cases h' with
   | stop=>rfl
   | opDeep=>omega
   | op=>omega
   | opBad=>omega
 | opDeep h1 h2=>
   intro r' h'
   cases h' with
   | stop=>omega
   | opDeep=>rfl
   | op=>omega
   | opBad=>omega
 | op h1 h2 h3 h4 ih3 ih4=>
   intro r' h'
   cases h' with
   | stop=>omega
   | opDeep=>omega
   | op _ _ k3 k4=>cases ih3 k3;exact ih4 k4
   | opBad _ _ k3=>cases ih3 k3
 | opBad h1 h2 h3 ih=>
   intro r' h'
   cases h' with
   | stop=>omega
   | opDeep=>omega
   | op _ _ k3=>cases ih k3
   | opBad _ _ k3=>cases ih k3;rfl
def Md.pos:Md→Prop
 | .one=>True
 | .some m=>1≤m
 | .loop m _=>1≤m
def Rs.within (l:List Tok) (i:Nat):Rs→Prop
 | .ok _ j=>i≤j∧j≤l.length
 | .bad j e=>i≤j∧j≤l.length∧(e=1∨e=8)
theorem RdE.within {l:List Tok} {m:Md} {i d:Nat} {r:Rs} (h:RdE l m i d r):m.pos→i≤l.length→r.within l i:=by
 have lt:∀ {i w},sg l i=w→w≠[]→i<l.length:=fun h hw=>sg_lt (by rw[h];exact hw)
 induction h with
 | deep=>intro _ hi;exact⟨Nat.le_refl _,hi,.inr rfl⟩
 | par h1 h2 h3 h4 ih=>
   intro _ hi;have a1:=lt h1 (by decide);have a2:=lt h4 (by decide);obtain⟨b1,b2⟩:=ih (Nat.le_refl 1) (by omega);exact⟨by omega,by omega⟩
 | parOpen h1 h2 h3 h4 ih=>
   intro _ hi;have a1:=lt h1 (by decide);obtain⟨b1,b2⟩:=ih (Nat.le_refl 1) (by omega);exact⟨by omega,b2,.inl rfl⟩
 | parBad h1 h2 h3 ih=>
   intro _ hi;have a1:=lt h1 (by decide);obtain⟨b1,b2,b3⟩:=ih (Nat.le_refl 1) (by omega);exact⟨by omega,b2,b3⟩
 | neg h1 h2 h3 ih=>
   intro _ hi;have a1:=lt h1 (by decide);obtain⟨b1,b2⟩:=ih trivial (by omega);exact⟨by omega,b2⟩
 | not h1 h2 h3 ih=>
   intro _ hi;have a1:=lt h1 (by decide);obtain⟨b1,b2⟩:=ih trivial (by omega);exact⟨by omega,b2⟩
 | @unBad i d j e h1 h2 h3 ih=>
   intro _ hi;have a1:i<l.length:=by rcases h1 with h1 | h1 <;> exact lt h1 (by decide)
   obtain⟨b1,b2,b3⟩:=ih trivial (by omega);exact⟨by omega,b2,b3⟩
 | num h1=>intro _ hi;have:=(List.getElem?_eq_some_iff.1 h1).1;exact⟨by omega,by omega⟩
 | var h1=>intro _ hi;have:=(List.getElem?_eq_some_iff.1 h1).1;exact⟨by omega,by omega⟩
 | none=>intro _ hi;exact⟨Nat.le_refl _,hi,.inl rfl⟩
 | @some m i d x j r h1 h2 ih1 ih2=>
   intro hp hi;obtain⟨b1,b2⟩:=ih1 trivial hi;have:=ih2 hp b2
   cases r with
   | ok y k=>exact⟨by have:=this.1;omega,this.2⟩
   | bad k e=>exact⟨by have:=this.1;omega,this.2⟩
 | someBad h1 ih=>intro _ hi;exact ih trivial hi
 | stop=>intro _ hi;exact⟨Nat.le_refl _,hi⟩
 | opDeep=>intro _ hi;exact⟨Nat.le_refl _,hi,.inr rfl⟩
 | @op m x i d y k r h1 h2 h3 h4 ih3 ih4=>
   intro hp hi;have a1:=strong_sg_lt hp h1;obtain⟨b1,b2⟩:=ih3 (by show 1≤strong (sg l i)+1;omega) (by omega);have:=ih4 hp b2
   cases r with
   | ok y k=>exact⟨by have:=this.1;omega,this.2⟩
   | bad k e=>exact⟨by have:=this.1;omega,this.2⟩
 | @opBad m x i d j e h1 h2 h3 ih=>
   intro hp hi;have a1:=strong_sg_lt hp h1;obtain⟨b1,b2,b3⟩:=ih (by show 1≤strong (sg l i)+1;omega) (by omega);exact⟨by omega,b2,b3⟩
def shapeX (k n:Int) (nm op:Bs) (c:Nat):Bool:=
 if k=0 then decide (0≤n) && nm.isEmpty && op.isEmpty && c==0
 else if k=1 then decide (n=0) && isName nm && op.isEmpty && c==0
 else if k=2∨k=3 then decide (n=0) && nm.isEmpty && op.isEmpty && c==1
 else if k=4 then decide (n=0) && nm.isEmpty && (strong op != 0) && c==2 else false
mutual
def mayX:Ex→Nat→Bool
 | .mk k n nm op ks,d=>shapeX k n nm op ks.length && (ks.isEmpty || decide (d<64)) && mayL ks (d+1)
def mayL:List Ex→Nat→Bool
 | [],_=>true
 | x::r,d=>mayX x d && mayL r d
end
theorem mayL_all:∀ {l:List Ex} {d:Nat},mayL l d=true→∀ x∈l,mayX x d=true
 | [],d,_,x,hx=>by cases hx
 | y::l,d,h,x,hx=>by
   rw[mayL,Bool.and_eq_true] at h
   rcases List.mem_cons.1 hx with rfl | hx
   ·exact h.1
   ·exact mayL_all h.2 x hx
theorem blockX_add (a:Addr) (n:Nat):(a.add n).block=a.block:=by unfold Addr.add;split <;> rfl
def valX (r:Ex) (A:Option Addr) (c:Nat):Value:=match r with
 | .mk k n nm op ks=> .agg #[.int .i64 k,.int .i64 n,.string ⟨nm.toArray⟩,.string ⟨op.toArray⟩,.slice A ks.length c]
def AtX (w:World) (a:Addr) (r:Ex) (A:Option Addr) (c:Nat):Prop:=match r with
 | .mk k n nm op ks=>
   w.cell? a=some (.int .i64 k)∧w.cell? ⟨a.block,a.off+1,none⟩=some (.int .i64 n)∧w.cell? ⟨a.block,a.off+2,none⟩=some (.string ⟨nm.toArray⟩)∧
   w.cell? ⟨a.block,a.off+3,none⟩=some (.string ⟨op.toArray⟩)∧w.cell? ⟨a.block,a.off+4,none⟩=some (.slice A ks.length c)
mutual
def KidsX (P:Nat→Prop) (w:World) (A:Option Addr):Ex→Prop
 | .mk _ _ _ _ ks=>ks=[]∨∃ ad,A=some ad∧P ad.block∧KidsXL P w ad 0 ks
def KidsXL (P:Nat→Prop) (w:World) (ad:Addr) (i:Nat):List Ex→Prop
 | []=>True
 | r::rs=>(∃ A c,AtX w (ad.add (i * 5)) r A c∧KidsX P w A r)∧KidsXL P w ad (i+1) rs
end
theorem kidsXL_at {P:Nat→Prop} {w:World} {ad:Addr}:∀ {l:List Ex} {i k:Nat} {r:Ex},KidsXL P w ad i l→l[k]?=some r→∃ A c,AtX w (ad.add ((i+k) * 5)) r A c∧KidsX P w A r
 | [],i,k,r,_,hk=>by simp at hk
 | x::l,i,0,r,h,hk=>by
   injection hk with hk;subst hk
   rw[KidsXL] at h;exact h.1
 | x::l,i,k+1,r,h,hk=>by
   rw[KidsXL] at h;have:=kidsXL_at h.2 (k:=k) (r:=r) (by simpa using hk);rw[show i+(k+1)=i+1+k by omega];exact this
theorem AtX.keep {w w':World} {a:Addr} {r:Ex} {A:Option Addr} {c:Nat} (h:AtX w a r A c) (hb:∀ p:Addr,p.block=a.block→w'.cell? p=w.cell? p):AtX w' a r A c:=by
 obtain⟨k,n,nm,op,ks⟩:=r;obtain⟨a0,a1,a2,a3,a4⟩:=h;exact⟨(hb a rfl).trans a0,(hb ⟨a.block,a.off+1,none⟩ rfl).trans a1,(hb ⟨a.block,a.off+2,none⟩ rfl).trans a2,(hb ⟨a.block,a.off+3,none⟩ rfl).trans a3,(hb ⟨a.block,a.off+4,none⟩ rfl).trans a4⟩
theorem kidsXL_of {P Q:Nat→Prop} {w w':World} (ad:Addr) (hs:∀ p:Addr,P p.block→w'.cell? p=w.cell? p) (hp:P ad.block):∀ (l:List Ex) (i:Nat),(∀ r∈l,∀ A,KidsX P w A r→KidsX Q w' A r)→KidsXL P w ad i l→KidsXL Q w' ad i l
 | [],i,_,h=>by rw[KidsXL];trivial
 | r::l,i,ih,h=>by
   rw[KidsXL] at h ⊢;obtain⟨⟨A,c,h1,h2⟩,h3⟩:=h;exact⟨⟨A,c,h1.keep (fun p hpb=>hs p (by rw[hpb,blockX_add];exact hp)),ih r (by simp) A h2⟩,kidsXL_of ad hs hp l (i+1) (fun r hr=>ih r (by simp[hr])) h3⟩
theorem kidsX_of {P Q:Nat→Prop} {w w':World} (hs:∀ p:Addr,P p.block→w'.cell? p=w.cell? p) (hPQ:∀ k,P k→Q k):∀ (r:Ex) (A:Option Addr),KidsX P w A r→KidsX Q w' A r:=by
 intro r
 induction r using Ex.ind with
 | h k n nm op ks ih=>
   intro A h;rw[KidsX] at h ⊢
   rcases h with h | ⟨ad,rfl,hp,hl⟩
   ·exact .inl h
   ·exact .inr ⟨ad,rfl,hPQ _ hp,kidsXL_of ad hs hp ks 0 ih hl⟩
def LtX (B:Nat):Nat→Prop:=fun k=>k<B
theorem KidsX.next {w w':World} {A:Option Addr} {r:Ex} (h:KidsX (LtX w.heap.size) w A r) (hb:Below w.heap.size w w'):KidsX (LtX w'.heap.size) w' A r:=kidsX_of (fun _ h=>hb.cell h) (fun _ h=>Nat.lt_of_lt_of_le h hb.size) r A h
theorem kidX_at {w wr:World} {A:Option Addr} {r x:Ex} {j:Nat} (h:KidsX (LtX w.heap.size) w A r) (hb:Below w.heap.size w wr) (hx:r.kids[j]?=some x):
  ∃ ad A' c',A=some ad∧ad.block<w.heap.size∧AtX wr (ad.add (j * 5)) x A' c'∧KidsX (LtX w.heap.size) w A' x:=by
 obtain⟨k0,n,nm,op,ks⟩:=r;rw[KidsX] at h
 rcases h with h | ⟨ad,rfl,hp,hl⟩
 ·simp[Ex.kids,h] at hx
 ·obtain⟨A',c,h1,h2⟩:=kidsXL_at hl hx
  rw[Nat.zero_add] at h1;exact⟨ad,A',c,rfl,hp,h1.keep (fun p hpb=>hb.cell (by rw[hpb,blockX_add];exact hp)),h2⟩
theorem getX_of_lt {α:Type} {l:List α} {k n:Nat} (hn:n=l.length) (h:k<n):∃ p,l[k]?=some p:=⟨_,List.getElem?_eq_getElem (by omega)⟩
mutual
def sizeX:Ex→Nat
 | .mk _ _ _ _ ks=>1+sizeXL ks
def sizeXL:List Ex→Nat
 | []=>0
 | r::rs=>sizeX r+sizeXL rs
end
theorem sizeXL_mem {l:List Ex} {r:Ex} (h:r∈l):sizeX r≤sizeXL l:=by
 induction l with
 | nil=>cases h
 | cons x l ih=>
   rw[sizeXL]
   rcases List.mem_cons.1 h with rfl | h
   ·omega
   ·have:=ih h;omega
theorem sizeXL_len (l:List Ex):l.length≤sizeXL l:=by
 induction l with
 | nil=>simp[sizeXL]
 | cons x l ih=>rw[sizeXL,List.length_cons];cases x;rw[sizeX];omega
mutual
def cntX:Ex→Int→Int
 | .mk _ _ nm op ks,left=>if 60<nm.length∨60<op.length then -1 else cntXL ks (left - 1)
def cntXL:List Ex→Int→Int
 | [],left=>left
 | r::rs,left=>if left<0 then left else cntXL rs (cntX r left)
end
theorem cntXL_neg (l:List Ex) {z:Int} (h:z<0):cntXL l z=z:=by
 cases l with
 | nil=>rw[cntXL]
 | cons x l=>rw[cntXL,if_pos h]
theorem cntXL_snoc (x:Ex):∀ (l:List Ex) (z:Int),cntXL (l++[x]) z=if cntXL l z<0 then cntXL l z else cntX x (cntXL l z)
 | [],z=>by
   rw[List.nil_append,cntXL,cntXL,cntXL]
 | y::l,z=>by
   rw[List.cons_append,cntXL,cntXL];by_cases h:z<0
   ·rw[if_pos h,if_pos h,if_pos h]
   ·rw[if_neg h,if_neg h];exact cntXL_snoc x l _
theorem cntXL_ge (l:List Ex):(∀ x∈l,∀ z,0≤z→ -1≤cntX x z∧cntX x z≤z - 1)→∀ z, -1≤z→ -1≤cntXL l z∧cntXL l z≤z:=by
 induction l with
 | nil=>intro _ z hz;rw[cntXL];omega
 | cons x l ih=>
   intro h z hz;rw[cntXL]
   split
   ·omega
   ·have h1:=h x (by simp) z (by omega)
    have h2:=ih (fun y hy=>h y (by simp[hy])) (cntX x z) h1.1;omega
theorem cntX_ge (e:Ex):∀ z,0≤z→ -1≤cntX e z∧cntX e z≤z - 1:=by
 induction e using Ex.ind with
 | h k n nm op ks ih=>
   intro z hz;rw[cntX]
   split
   ·omega
   ·exact cntXL_ge ks ih (z - 1) (by omega)
theorem cntXL_take {l:List Ex} {k:Nat} {x:Ex} (h:l[k]?=some x) (z:Int):cntXL (l.take (k+1)) z=if cntXL (l.take k) z<0 then cntXL (l.take k) z else cntX x (cntXL (l.take k) z):=by
 obtain⟨hk,e⟩:=List.getElem?_eq_some_iff.1 h;rw[List.take_succ_eq_append_getElem hk,e,cntXL_snoc]
theorem cntXL_stop {l:List Ex} {z:Int} (k:Nat) (h:cntXL (l.take k) z<0):cntXL l z=cntXL (l.take k) z:=by
 have:∀ (a b:List Ex) (z:Int),cntXL a z<0→cntXL (a++b) z=cntXL a z:=by
  intro a b
  induction a with
  | nil=>intro z h;rw[cntXL] at h;rw[List.nil_append,cntXL_neg b h,cntXL]
  | cons x a ih=>
    intro z h;rw[cntXL] at h;rw[List.cons_append,cntXL,cntXL]
    split
    ·rfl
    ·rename_i hz
     rw[if_neg hz] at h;exact ih _ h
 rw[←this (l.take k) (l.drop k) z h,List.take_append_drop]
theorem cntXL_idx {l:List Ex} {z:Int} (hz: -1≤z):∀ k,k≤l.length→0≤cntXL (l.take k) z→(k:Int)≤z - cntXL (l.take k) z
 | 0,_,_=>by rw[List.take_zero,cntXL];omega
 | k+1,hk,h=>by
   have e:=cntXL_take (List.getElem?_eq_getElem (show k<l.length by omega)) z;obtain⟨y,hy⟩:∃ y,y=cntXL (l.take k) z:=⟨_,rfl⟩;have h2:=cntXL_idx (l:=l) hz k (by omega);rw[←hy] at e h2;rw[e] at h ⊢;by_cases hn:y<0
   ·rw[if_pos hn] at h;omega
   ·rw[if_neg hn] at h ⊢
    have h1:=cntX_ge l[k] y (by omega);have h3:=h2 (by omega);omega
mutual
def nmX:Ex→Nat
 | .mk _ _ nm _ ks=>nm.length+nmXL ks
def nmXL:List Ex→Nat
 | []=>0
 | r::rs=>nmX r+nmXL rs
end
theorem nmXL_mem {l:List Ex} {r:Ex} (h:r∈l):nmX r≤nmXL l:=by
 induction l with
 | nil=>cases h
 | cons x l ih=>
   rw[nmXL]
   rcases List.mem_cons.1 h with rfl | h
   ·omega
   ·have:=ih h;omega
theorem cntX_sz (e:Ex):∀ z:Int,0≤cntX e z→cntX e z+sizeX e≤z∧nmX e≤60 * sizeX e:=by
 induction e using Ex.ind with
 | h k n nm op ks ih=>
   have hl:∀ (l:List Ex),(∀ x∈l,∀ z:Int,0≤cntX x z→cntX x z+sizeX x≤z∧nmX x≤60 * sizeX x)→∀ z:Int,0≤cntXL l z→cntXL l z+sizeXL l≤z∧nmXL l≤60 * sizeXL l:=by
    intro l
    induction l with
    | nil=>intro _ z hz;rw[cntXL,sizeXL,nmXL];exact⟨by omega,by omega⟩
    | cons x l il=>
      intro h z hz;rw[cntXL] at hz ⊢
      split at hz
      ·omega
      ·rename_i h0
       rw[if_neg h0,sizeXL,nmXL];have h2:=il (fun y hy=>h y (by simp[hy])) _ hz
       have h3:0≤cntX x z:=by
        by_cases c:0≤cntX x z
        ·exact c
        ·rw[cntXL_neg l (by omega)] at hz;omega
       have h1:=h x (by simp) z h3;omega
   intro z hz;rw[cntX] at hz ⊢
   split at hz
   ·omega
   ·rename_i h0
    rw[if_neg h0,sizeX,nmX];have:=hl ks ih (z - 1) hz;omega
def Md.sz:Md→Nat
 | .one=>0
 | .some _=>0
 | .loop _ x=>sizeX x
def Md.nz:Md→Nat
 | .one=>0
 | .some _=>0
 | .loop _ x=>nmX x
theorem size_num (n:Int):sizeX (exNum n)=1∧nmX (exNum n)=0:=by simp[exNum,sizeX,sizeXL,nmX,nmXL]
theorem size_var (w:Bs):sizeX (exVar w)=1∧nmX (exVar w)=w.length:=by simp[exVar,sizeX,sizeXL,nmX,nmXL]
theorem size_neg (x:Ex):sizeX (exNeg x)=1+sizeX x∧nmX (exNeg x)=nmX x:=by simp[exNeg,sizeX,sizeXL,nmX,nmXL]
theorem size_not (x:Ex):sizeX (exNot x)=1+sizeX x∧nmX (exNot x)=nmX x:=by simp[exNot,sizeX,sizeXL,nmX,nmXL]
theorem size_bin (op:Bs) (x y:Ex):sizeX (exBin op x y)=1+(sizeX x+sizeX y)∧nmX (exBin op x y)=nmX x+nmX y:=by simp[exBin,sizeX,sizeXL,nmX,nmXL]
theorem RdE.sized {l:List Tok} (hM:∀ t∈l,t.word.length≤200) {m:Md} {i d:Nat} {r:Rs} (h:RdE l m i d r):∀ y j,r= .ok y j→m.pos→i≤l.length→sizeX y+i≤m.sz+j∧nmX y+200 * i≤m.nz+200 * j:=by
 have lt:∀ {i w},sg l i=w→w≠[]→i<l.length:=fun h hw=>sg_lt (by rw[h];exact hw)
 induction h with
 | deep=>intro y j e;cases e
 | par h1 h2 h3 h4 ih=>
   intro y j e _ hi
   cases e
   have a1:=lt h1 (by decide);have:=ih _ _ rfl (Nat.le_refl 1) (by omega);simp only[Md.sz,Md.nz] at this ⊢;omega
 | parOpen=>intro y j e;cases e
 | parBad=>intro y j e;cases e
 | neg h1 h2 h3 ih=>
   intro y j e _ hi
   cases e
   have a1:=lt h1 (by decide);have:=ih _ _ rfl trivial (by omega);rw[(size_neg _).1,(size_neg _).2];simp only[Md.sz,Md.nz] at this ⊢;omega
 | not h1 h2 h3 ih=>
   intro y j e _ hi
   cases e
   have a1:=lt h1 (by decide);have:=ih _ _ rfl trivial (by omega);rw[(size_not _).1,(size_not _).2];simp only[Md.sz,Md.nz] at this ⊢;omega
 | unBad=>intro y j e;cases e
 | num h1 h2=>
   intro y j e _ hi
   cases e
   rw[(size_num _).1,(size_num _).2];simp only[Md.sz,Md.nz];omega
 | var h1 h2=>
   intro y j e _ hi
   cases e
   have:=hM _ (List.mem_of_getElem? h1);rw[(size_var _).1,(size_var _).2];simp only[Md.sz,Md.nz];omega
 | none=>intro y j e;cases e
 | some h1 h2 ih1 ih2=>
   intro y j e hp hi;have a:=ih1 _ _ rfl trivial hi;have b:=ih2 _ _ e hp (h1.within trivial hi).2;simp only[Md.sz,Md.nz] at a b ⊢;omega
 | someBad=>intro y j e;cases e
 | stop=>
   intro y j e _ _
   cases e
   simp only[Md.sz,Md.nz];omega
 | opDeep=>intro y j e;cases e
 | @op m x i d y k r h1 h2 h3 h4 ih3 ih4=>
   intro y' j e hp hi;have a1:=strong_sg_lt hp h1;have hpos:(Md.some (strong (sg l i)+1)).pos:=by show 1≤strong (sg l i)+1;omega
   have a:=ih3 _ _ rfl hpos (by omega);have b:=ih4 _ _ e hp (h3.within hpos (by omega)).2;simp only[Md.sz,Md.nz] at a b ⊢;rw[(size_bin _ _ _).1,(size_bin _ _ _).2] at b;omega
 | opBad=>intro y j e;cases e
theorem RdE.small {l:List Tok} (hM:∀ t∈l,t.word.length≤200) {m i d j:Nat} {y:Ex} (hm:1≤m) (hi:i≤l.length) (h:RdE l (.some m) i d (.ok y j)):sizeX y≤l.length∧nmX y≤200 * l.length:=by
 have a:=h.sized hM y j rfl hm hi;have b:=(h.within hm hi).2;simp only[Md.sz,Md.nz] at a;omega
theorem countX_any (r:Ex):∀ (A:Option Addr) (c:Nat) (left:Nat) (w:World),KidsX (LtX w.heap.size) w A r→left≤120→
  Calls Tryz.prog 84 #[valX r A c,.int .i64 left] w fun e w'=>e= .returned (.int .i64 (cntX r left))∧Below w.heap.size w w':=by
 induction r using Ex.ind with
 | h k n nm op ks ih=>
   intro A c left w hk hleft;simp only[valX];obtain⟨G,hG⟩:∃ G:Int,G=cntX (.mk k n nm op ks) left:=⟨_,rfl⟩;rw[←hG];rw[cntX] at hG;obtain⟨m,hm⟩:∃ m,m=ks.length:=⟨_,rfl⟩;rw[←hm];obtain⟨N1,hN1⟩:∃ N1:ByteArray,N1=⟨nm.toArray⟩:=⟨_,rfl⟩;obtain⟨N2,hN2⟩:∃ N2:ByteArray,N2=⟨op.toArray⟩:=⟨_,rfl⟩;rw[←hN1,←hN2];have z1:N1.size=nm.length:=by rw[hN1];simp[ByteArray.size]
   have z2:N2.size=op.length:=by rw[hN2];simp[ByteArray.size]
   have HM:=Lib.hid hm;have HK:=Lib.hid hk;have HI:=Lib.hid ih;clear hk ih hm hN1 hN2;obtain⟨o,ho⟩:∃ o:Obj,o= .cells #[.int .i64 k,.int .i64 n,.string N1,.string N2,.slice A m c] 38:=⟨_,rfl⟩;have hbo:Below w.heap.size w (w.alloc o):=(Below.refl _ _).alloc (Nat.le_refl _) _;have hc4:(w.alloc o).cell? ⟨w.heap.size,4,none⟩=some (.slice A m c):=by rw[ho];simp[go_sem]
   rw[ho] at hbo hc4;clear ho;by_cases hn1:60<N1.size
   ·have HX:Hid (G= -1):=Lib.hid (by rw[hG,if_pos (.inl (by omega))])
    clear hG z1 z2;go_enter Tryz.func84,Tryz.ntmps84;go_wp2;go_ret;exact⟨ret_int HX.out.symm,hbo⟩
   by_cases hn2:60<N2.size
   ·have HX:Hid (G= -1):=Lib.hid (by rw[hG,if_pos (.inr (by omega))])
    clear hG z1 z2;go_enter Tryz.func84,Tryz.ntmps84;go_wp2;go_ret;exact⟨ret_int HX.out.symm,hbo⟩
   have HGG:Hid (G=cntXL ks ((left:Int) - 1)):=Lib.hid (by rw[hG,if_neg (by omega)]);clear hG z1 z2;go_enter Tryz.func84,Tryz.ntmps84;go_wp2
   go_loopw [1,21] (fun g i wr=>∃ j:Nat,j≤m∧j≤121∧i= .int .i64 j∧g= .int .i64 (cntXL (ks.take j) ((left:Int) - 1))∧Below (w.heap.size+1) (w.alloc (.cells #[.int .i64 k,.int .i64 n,.string N1,.string N2,.slice A m c] 38)) wr) (fun _ i _=>m - (intOf i).toNat)
   case atStart=>exact⟨0,by omega,by omega,rfl,by rw[List.take_zero,cntXL],Below.refl _ _⟩
   case round=>
    obtain⟨j,hj,hj2,rfl,rfl,hb1⟩:=hrel;have hb:Below w.heap.size w wr:=hbo.trans (hb1.mono (by omega));have c4:wr.cell? ⟨w.heap.size,4,none⟩=some (.slice A m c):=(hb1.cell (p:=⟨w.heap.size,4,none⟩) (by show w.heap.size<w.heap.size+1;omega)).trans hc4;have HB1:=Lib.hid hb1;clear hb1;obtain⟨z,hz⟩:∃ z:Int,z=cntXL (ks.take j) ((left:Int) - 1):=⟨_,rfl⟩;rw[←hz];have hzm: -1≤z:=by rw[hz];exact(cntXL_ge _ (fun x _=>cntX_ge x) _ (by omega)).1
    by_cases a:j<m
    ·obtain⟨r,hr⟩:=getX_of_lt HM.out a
     obtain⟨ad,A',c',rfl,hp,h5,hkr⟩:=kidX_at HK.out hb hr;have hmem:=List.mem_of_getElem? hr;have HX:=cntXL_take hr ((left:Int) - 1);have hidx:=cntXL_idx (l:=ks) (z:=(left:Int) - 1) (by omega) j (by have:=HM.out;omega);rw[←hz] at HX hidx;by_cases hneg:z<0
     ·have HX2:Hid (z=G):=Lib.hid (by
       rw[HGG.out,hz];exact(cntXL_stop j (by rw[←hz];exact hneg)).symm)
      clear hr hkr hmem h5 HX hidx hz;go_wp2;go_ret;exact⟨ret_int HX2.out,hb⟩
     ·obtain⟨zn,hzn⟩:∃ zn:Nat,z=zn:=⟨z.toNat,by omega⟩
      subst hzn;have hidx:=hidx (by omega);have hzb:zn≤120:=by omega
      have K:∀ w2,Below w.heap.size w w2→Calls Tryz.prog 84 #[valX r A' c',.int .i64 zn] w2 fun e w'=>e= .returned (.int .i64 (cntX r zn))∧Below w2.heap.size w2 w':=fun w2 h2=>
       HI.out r hmem A' c' zn w2 (hkr.next h2) hzb
      have hj3:j+1≤121:=by omega
      rw[if_neg hneg] at HX;obtain⟨y,hy⟩:∃ y:Int,y=cntX r zn:=⟨_,rfl⟩;rw[←hy] at K HX;have HX3:=Lib.hid HX;obtain⟨k',n',nm',op',ks'⟩:=r;simp only[valX] at K;obtain⟨d0,d1,d2,d3,d4⟩:=h5;generalize (⟨nm'.toArray⟩:ByteArray)=M1 at K d2;generalize (⟨op'.toArray⟩:ByteArray)=M2 at K d3;generalize ks'.length=m' at K d4;have HKC:=Lib.hid K;clear hr hkr hmem K HX hidx hz hy hzm;go_wp2_with (go_at_call 84;((with_reducible refine(HKC.out _ hb).mono ?_));rintro e w' ⟨rfl,hb2⟩)
      go_roundw
      case rel=>exact⟨j+1,by omega,hj3,by go_num,by rw[HX3.out],HB1.out.trans (hb2.mono (by simpa using HB1.out.size))⟩
      case measure=>simp[intOf];omega
    ·have HE:ks.take j=ks:=List.take_of_length_le (by have:=HM.out;omega)
     rw[HE] at hz;have HX2:Hid (z=G):=Lib.hid (by rw[HGG.out];exact hz);clear HE hz;go_wp2;go_ret;exact⟨ret_int HX2.out,hb⟩
theorem smallX_any (r:Ex) (A:Option Addr) (c:Nat) (most:Nat) (w:World) (hk:KidsX (LtX w.heap.size) w A r) (hm:most≤120):
  Calls Tryz.prog 37 #[valX r A c,.int .i64 most] w fun e w'=>e= .returned (.bool (decide (0≤cntX r most)))∧Below w.heap.size w w':=by
 have K:∀ w2,Below w.heap.size w w2→Calls Tryz.prog 84 #[valX r A c,.int .i64 most] w2 fun e w'=>e= .returned (.int .i64 (cntX r most))∧Below w2.heap.size w2 w':=fun w2 h2=>
  countX_any r A c most w2 (hk.next h2) hm
 obtain⟨z,hz⟩:∃ z:Int,z=cntX r most:=⟨_,rfl⟩;rw[←hz] at K ⊢;clear hz;obtain⟨k',n',nm',op',ks'⟩:=r;simp only[valX] at K ⊢;have HKC:=Lib.hid K;clear K hk;by_cases h0:0≤z
 ·go_enter Tryz.func37,Tryz.ntmps37
  go_wp2_with (go_at_call 84;((with_reducible refine(HKC.out _ ((Below.refl _ _).alloc (Nat.le_refl _) _)).mono ?_));rintro e w' ⟨rfl,hb2⟩);go_ret;exact⟨by simp[h0],((Below.refl _ _).alloc (Nat.le_refl _) _).trans (hb2.mono (by simp))⟩
 ·go_enter Tryz.func37,Tryz.ntmps37
  go_wp2_with (go_at_call 84;((with_reducible refine(HKC.out _ ((Below.refl _ _).alloc (Nat.le_refl _) _)).mono ?_));rintro e w' ⟨rfl,hb2⟩);go_ret;exact⟨by simp,((Below.refl _ _).alloc (Nat.le_refl _) _).trans (hb2.mono (by simp))⟩
noncomputable def eqB {α:Type} (a b:α):Bool:=@decide (a=b) (Classical.propDecidable _)
theorem eqB_no {α:Type} {a b:α} (h:a≠b):eqB a b=false:=@decide_eq_false _ (Classical.propDecidable _) h
theorem eqB_yes {α:Type} {a b:α} (h:a=b):eqB a b=true:=@decide_eq_true _ (Classical.propDecidable _) h
theorem eqB_of {α:Type} {a b:α} (h:eqB a b=true):a=b:=@of_decide_eq_true _ (Classical.propDecidable _) h
theorem eqB_not {α:Type} {a b:α} (h:eqB a b=false):a≠b:=fun e=>by rw[eqB_yes e] at h;cases h
theorem take_eqX {α:Type} {a b:List α} {k:Nat} {p:α} (h:a.take k=b.take k) (h1:a[k]?=some p) (h2:b[k]?=some p):a.take (k+1)=b.take (k+1):=by
 obtain⟨hk,e⟩:=List.getElem?_eq_some_iff.1 h1;obtain⟨hk',e'⟩:=List.getElem?_eq_some_iff.1 h2;rw[List.take_succ_eq_append_getElem hk,List.take_succ_eq_append_getElem hk',h,e,e']
theorem not_eqX {α:Type} {a b:List α} {k:Nat} {p q:α} (h1:a[k]?=some p) (h2:b[k]?=some q) (h:p≠q):a≠b:=by
 rintro rfl;rw[h1] at h2;injection h2 with h2;exact h h2
theorem nameX_eq {x y:Bs} {X Y:ByteArray} (hX:X=⟨x.toArray⟩) (hY:Y=⟨y.toArray⟩):(X.toList==Y.toList)=eqB x y:=by
 rw[toList_data,toList_data,hX,hY];by_cases h:x=y
 ·rw[eqB_yes h,h];simp
 ·rw[eqB_no h];simpa using h
def AtXB (w:World) (a:Addr) (r:Ex) (A:Option Addr) (c:Nat):Prop:=match r with
 | .mk k n nm op ks=>
   (∀ x:Bw w,x.at.cell? a=some (.int .i64 k))∧(∀ x:Bw w,x.at.cell? ⟨a.block,a.off+1,none⟩=some (.int .i64 n))∧(∀ x:Bw w,x.at.cell? ⟨a.block,a.off+2,none⟩=some (.string ⟨nm.toArray⟩))∧
   (∀ x:Bw w,x.at.cell? ⟨a.block,a.off+3,none⟩=some (.string ⟨op.toArray⟩))∧(∀ x:Bw w,x.at.cell? ⟨a.block,a.off+4,none⟩=some (.slice A ks.length c))
theorem AtX.later {w:World} {a:Addr} {r:Ex} {A:Option Addr} {c:Nat} (h:AtX w a r A c):AtXB w a r A c:=by
 obtain⟨k,n,nm,op,ks⟩:=r;obtain⟨a0,a1,a2,a3,a4⟩:=h;exact⟨bw_cell a0,bw_cell a1,bw_cell a2,bw_cell a3,bw_cell a4⟩
theorem two_boxesX (w:World) (o o':Obj):Below w.heap.size w ((w.alloc o).alloc o'):=((Below.refl _ _).alloc (Nat.le_refl _) _).alloc (by simp) _
def SameXC (f:Nat) (x:Ex):Prop:=∀ (y:Ex) (A A':Option Addr) (c c':Nat) (w:World),KidsX (LtX w.heap.size) w A x→KidsX (LtX w.heap.size) w A' y→sizeX x≤1000000→sizeX y≤1000000→
 Calls Tryz.prog f #[valX x A c,valX y A' c'] w fun e w'=>e= .returned (.bool (eqB x y))∧Below w.heap.size w w'
theorem rsameX_any (x:Ex):SameXC 22 x:=by
 induction x using Ex.ind with
 | h k n nm op ks ih=>
   intro y A A' c c' w hk hk' hs hs';obtain⟨k2,n2,nm2,op2,ks2⟩:=y;obtain⟨v,hv⟩:∃ v,v=eqB (Ex.mk k n nm op ks) (Ex.mk k2 n2 nm2 op2 ks2):=⟨_,rfl⟩;rw[←hv];rw[sizeX] at hs hs';have HV:=Lib.hid hv;simp only[valX];obtain⟨m,hm⟩:∃ m,m=ks.length:=⟨_,rfl⟩;obtain⟨m2,hm2⟩:∃ m,m=ks2.length:=⟨_,rfl⟩;have hmx:=sizeXL_len ks;have hm9:m≤1000000:=by omega
   obtain⟨X,hX⟩:∃ X:ByteArray,X=⟨nm.toArray⟩:=⟨_,rfl⟩;obtain⟨X2,hX2⟩:∃ X:ByteArray,X=⟨nm2.toArray⟩:=⟨_,rfl⟩;obtain⟨Y,hY⟩:∃ X:ByteArray,X=⟨op.toArray⟩:=⟨_,rfl⟩;obtain⟨Y2,hY2⟩:∃ X:ByteArray,X=⟨op2.toArray⟩:=⟨_,rfl⟩;have gx:=nameX_eq hX hX2;have gy:=nameX_eq hY hY2;rw[←hm,←hm2,←hX,←hX2,←hY,←hY2];have HK:=Lib.hid hk;have HK':=Lib.hid hk';have HI:=Lib.hid ih;have HS:=Lib.hid hs;have HS':=Lib.hid hs';have HM:=Lib.hid hm;have HM':=Lib.hid hm2;clear hv ih hk hk' hs hs' hX hX2 hY hY2 hm hm2 hmx;by_cases f1:k=k2
   ·by_cases f2:n=n2
    ·by_cases f3:nm=nm2
     ·by_cases f4:op=op2
      ·by_cases f6:m=m2
       ·have HX:Hid (∀ b,eqB ks ks2=b→v=b):=Lib.hid (by
         rintro b rfl;rw[HV.out];by_cases hkk:ks=ks2
         ·rw[eqB_yes hkk,eqB_yes (by rw[f1,f2,f3,f4,hkk])]
         ·rw[eqB_no hkk,eqB_no (fun h=>hkk (by injection h))])
        have g1:(k != k2)=false:=by simp[f1]
        have g2:(n != n2)=false:=by simp[f2]
        rw[eqB_yes f3] at gx;rw[eqB_yes f4] at gy;have g6:((m:Int) != (m2:Int))=false:=by simp[f6]
        have g7:(m != m2)=false:=by simp[f6]
        subst f1 f2 f6;clear f3 f4;obtain⟨o1,ho1⟩:∃ o:Obj,o= .cells #[.int .i64 k,.int .i64 n,.string X,.string Y,.slice A m c] 38:=⟨_,rfl⟩;obtain⟨o2,ho2⟩:∃ o:Obj,o= .cells #[.int .i64 k,.int .i64 n,.string X2,.string Y2,.slice A' m c'] 38:=⟨_,rfl⟩;have hbo:Below w.heap.size w ((w.alloc o1).alloc o2):=two_boxesX w o1 o2;have hc5:((w.alloc o1).alloc o2).cell? ⟨w.heap.size,4,none⟩=some (.slice A m c):=by rw[ho1];simp[go_sem]
        have hd5:((w.alloc o1).alloc o2).cell? ⟨w.heap.size+1,4,none⟩=some (.slice A' m c'):=by rw[ho2];simp[go_sem]
        have hsz:((w.alloc o1).alloc o2).heap.size=w.heap.size+2:=by simp
        obtain⟨W2,hW2⟩:∃ W2,W2=(w.alloc o1).alloc o2:=⟨_,rfl⟩;have HW2:Hid (W2=(w.alloc (.cells #[.int .i64 k,.int .i64 n,.string X,.string Y,.slice A m c] 38)).alloc (.cells #[.int .i64 k,.int .i64 n,.string X2,.string Y2,.slice A' m c'] 38)):=Lib.hid (by rw[hW2,ho1,ho2]);rw[←hW2] at hbo hc5 hd5 hsz;have HBO:=Lib.hid hbo;have HC5:=Lib.hid hc5;have HD5:=Lib.hid hd5;clear ho1 ho2 hW2 hbo hc5 hd5;go_enter Tryz.func22,Tryz.ntmps22;go_wp2
        go_loopw [5] (fun i wr=>∃ j:Nat,j≤m∧i= .int .i64 j∧ks.take j=ks2.take j∧Below (w.heap.size+2) W2 wr) (fun i _=>m - (intOf i).toNat)
        case atStart=>exact⟨0,by omega,rfl,rfl,by rw[HW2.out];exact Below.refl _ _⟩
        case round=>
         obtain⟨j,hj,rfl,ht,hb1⟩:=hrel;have hb:Below w.heap.size w wr:=HBO.out.trans (hb1.mono (by omega));have c5:wr.cell? ⟨w.heap.size,4,none⟩=some (.slice A m c):=(hb1.cell (p:=⟨w.heap.size,4,none⟩) (by show w.heap.size<w.heap.size+2;omega)).trans HC5.out;have d5:wr.cell? ⟨w.heap.size+1,4,none⟩=some (.slice A' m c'):=(hb1.cell (p:=⟨w.heap.size+1,4,none⟩) (by show w.heap.size+1<w.heap.size+2;omega)).trans HD5.out;have HB1:=Lib.hid hb1;have HT:=Lib.hid ht;clear ht hb1;by_cases a:j<m
         ·obtain⟨r,hr⟩:=getX_of_lt HM.out a
          obtain⟨r',hr'⟩:=getX_of_lt HM'.out a;obtain⟨ad,B,b,rfl,hp,h9,hkr⟩:=kidX_at HK.out hb hr;obtain⟨ad',B',b',rfl,hp',h9',hkr'⟩:=kidX_at HK'.out hb hr';have hmem:=List.mem_of_getElem? hr;have hsz1:=sizeXL_mem hmem;have hsz2:=sizeXL_mem (List.mem_of_getElem? hr')
          have K:∀ x:Bw wr,Calls Tryz.prog 22 #[valX r B b,valX r' B' b'] x.at fun e w'=>e= .returned (.bool (eqB r r'))∧Below x.at.heap.size x.at w':=fun x=>
           HI.out r hmem r' B B' b b' x.at (hkr.next (hb.trans (x.2.mono hb.size))) (hkr'.next (hb.trans (x.2.mono hb.size))) (by have:=HS.out;omega) (by have:=HS'.out;omega)
          obtain⟨v2,hv2⟩:∃ v2,v2=eqB r r':=⟨_,rfl⟩;rw[←hv2] at K;have HV2:=Lib.hid hv2;have HR:=Lib.hid hr;have HR':=Lib.hid hr';have q9:=h9.later;have q9':=h9'.later;have e5:=bw_cell c5;have f5:=bw_cell d5;clear hr hr' hv2 hkr hkr' hmem hsz1 hsz2 h9 h9';obtain⟨k',n',nm',op',ks1⟩:=r;obtain⟨k3,n3,nm3,op3,ks3⟩:=r';simp only[valX] at K;obtain⟨c0,c1,c2,c3,c4⟩:=q9;obtain⟨d0,d1,d2,d3,d4⟩:=q9';obtain⟨M1,hM1⟩:∃ M:ByteArray,M=⟨nm'.toArray⟩:=⟨_,rfl⟩;obtain⟨M2,hM2⟩:∃ M:ByteArray,M=⟨op'.toArray⟩:=⟨_,rfl⟩;obtain⟨M3,hM3⟩:∃ M:ByteArray,M=⟨nm3.toArray⟩:=⟨_,rfl⟩;obtain⟨M4,hM4⟩:∃ M:ByteArray,M=⟨op3.toArray⟩:=⟨_,rfl⟩;obtain⟨l1,hl1⟩:∃ l,l=ks1.length:=⟨_,rfl⟩;obtain⟨l2,hl2⟩:∃ l,l=ks3.length:=⟨_,rfl⟩;rw[←hM1,←hM2,←hM3,←hM4,←hl1,←hl2] at K;rw[←hM1] at c2;rw[←hM2] at c3;rw[←hl1] at c4;rw[←hM3] at d2;rw[←hM4] at d3;rw[←hl2] at d4;have HKC:=Lib.hid K;clear K hM1 hM2 hM3 hM4 hl1 hl2
          cases v2 with
          | true=>
            have HX:Hid (ks.take (j+1)=ks2.take (j+1)):=Lib.hid (by
             have:=eqB_of HV2.out.symm;rw[←this] at HR';exact take_eqX HT.out HR.out HR'.out)
            go_wp2;have hne:=bw_some wr;refine wp_region_below (by kernel_rfl) (by kernel_rfl) ?_
            repeat (go_big_quiet_step ((go_at_call 22;with_reducible exact bw_calls (HKC.out _))))
            refine wpQuiet_nil ?_;intro w3 hw3;obtain⟨m3,rfl⟩:=hw3;obtain⟨w4,hw4⟩:∃ x,x=m3.at:=⟨_,rfl⟩;have HB3:Hid (Below wr.heap.size wr w4):=Lib.hid (by rw[hw4];exact m3.2);rw[←hw4];clear hw4;go_wp2
            go_roundw
            case rel=>exact⟨j+1,by omega,by go_num,HX.out,HB1.out.trans (HB3.out.mono (by have:=HB1.out.size;omega))⟩
            case measure=>simp[intOf];omega
          | false=>
            have HX2:Hid (v=false):=Lib.hid (HX.out _ (eqB_no (not_eqX HR.out HR'.out (eqB_not HV2.out.symm))));go_wp2;have hne:=bw_some wr;refine wp_region_below (by kernel_rfl) (by kernel_rfl) ?_
            repeat (go_big_quiet_step ((go_at_call 22;with_reducible exact bw_calls (HKC.out _))))
            refine wpQuiet_nil ?_;intro w3 hw3;obtain⟨m3,rfl⟩:=hw3;obtain⟨w4,hw4⟩:∃ x,x=m3.at:=⟨_,rfl⟩;have HB3:Hid (Below wr.heap.size wr w4):=Lib.hid (by rw[hw4];exact m3.2);rw[←hw4];clear hw4;go_wp2;go_ret;exact⟨ret_bool HX2.out.symm,hb.trans (HB3.out.mono hb.size)⟩
         ·have HX2:Hid (v=true):=by
           apply Lib.hid;apply HX.out;have:=HT.out;rw[List.take_of_length_le (by have:=HM.out;omega),List.take_of_length_le (by have:=HM'.out;omega)] at this;exact eqB_yes this
          go_wp2;go_ret;exact⟨ret_bool HX2.out.symm,hb⟩
       ·have HX:Hid (v=false):=Lib.hid (by rw[HV.out];exact eqB_no (fun h=>f6 (by rw[HM.out,HM'.out];congr 1;injection h)))
        have g1:(k != k2)=false:=by simp[f1]
        have g2:(n != n2)=false:=by simp[f2]
        rw[eqB_yes f3] at gx;rw[eqB_yes f4] at gy;have g6:((m:Int) != (m2:Int))=true:=by simp;omega
        have g7:(m != m2)=true:=by simp[f6]
        subst f1 f2;clear f3 f4 f6;go_enter Tryz.func22,Tryz.ntmps22;go_wp2;go_ret;exact⟨ret_bool HX.out.symm,two_boxesX _ _ _⟩
      ·have HX:Hid (v=false):=Lib.hid (by rw[HV.out];exact eqB_no (fun h=>f4 (by injection h)))
       have g1:(k != k2)=false:=by simp[f1]
       have g2:(n != n2)=false:=by simp[f2]
       rw[eqB_yes f3] at gx;rw[eqB_no f4] at gy;subst f1 f2;clear f3 f4;go_enter Tryz.func22,Tryz.ntmps22;go_wp2;go_ret;exact⟨ret_bool HX.out.symm,two_boxesX _ _ _⟩
     ·have HX:Hid (v=false):=Lib.hid (by rw[HV.out];exact eqB_no (fun h=>f3 (by injection h)))
      have g1:(k != k2)=false:=by simp[f1]
      have g2:(n != n2)=false:=by simp[f2]
      rw[eqB_no f3] at gx;subst f1 f2;clear f3;go_enter Tryz.func22,Tryz.ntmps22;go_wp2;go_ret;exact⟨ret_bool HX.out.symm,two_boxesX _ _ _⟩
    ·have HX:Hid (v=false):=Lib.hid (by rw[HV.out];exact eqB_no (fun h=>f2 (by injection h)))
     have g1:(k != k2)=false:=by simp[f1]
     have g2:(n != n2)=true:=by simp[f2]
     subst f1;clear f2;go_enter Tryz.func22,Tryz.ntmps22;go_wp2;go_ret;exact⟨ret_bool HX.out.symm,two_boxesX _ _ _⟩
   ·have HX:Hid (v=false):=Lib.hid (by rw[HV.out];exact eqB_no (fun h=>f1 (by injection h)))
    have g1:(k != k2)=true:=by simp[f1]
    clear f1;go_enter Tryz.func22,Tryz.ntmps22;go_wp2;go_ret;exact⟨ret_bool HX.out.symm,two_boxesX _ _ _⟩
theorem isOp_eq (S:ByteArray) (c:Bs) (b:Bool) (h:decide (S.data.toList=c)=b):(S.toList==c)=b:=by
 rw[toList_data,←h,Bool.eq_iff_iff];simp
theorem nilB:(⟨([]:Bs).toArray⟩:ByteArray)=⟨#[]⟩:=rfl
theorem cstrong_any (S:ByteArray) (w:World):Calls Tryz.prog 154 #[.string S] w fun e w'=>e= .returned (.int .i64 (strong S.data.toList))∧w=w':=by
 obtain⟨v,hv⟩:∃ v:Int,v=strong S.data.toList:=⟨_,rfl⟩;rw[←hv];by_cases h0:S.data.toList=[124,124]
 ·have b0:=isOp_eq S _ _ (decide_eq_true h0)
  have HX:Hid (v=1):=Lib.hid (by rw[hv,h0];decide);clear hv h0;go_enter Tryz.func154,Tryz.ntmps154;go_wp2;go_ret;exact⟨ret_int HX.out.symm,rfl⟩
 have b0:=isOp_eq S _ _ (decide_eq_false h0);by_cases h1:S.data.toList=[38,38]
 ·have b1:=isOp_eq S _ _ (decide_eq_true h1)
  have HX:Hid (v=2):=Lib.hid (by rw[hv,h1];decide);clear hv h0 h1;go_enter Tryz.func154,Tryz.ntmps154;go_wp2;go_ret;exact⟨ret_int HX.out.symm,rfl⟩
 have b1:=isOp_eq S _ _ (decide_eq_false h1);by_cases h2:S.data.toList=[61,61]
 ·have b2:=isOp_eq S _ _ (decide_eq_true h2)
  have HX:Hid (v=3):=Lib.hid (by rw[hv,h2];decide);clear hv h0 h1 h2;go_enter Tryz.func154,Tryz.ntmps154;go_wp2;go_ret;exact⟨ret_int HX.out.symm,rfl⟩
 have b2:=isOp_eq S _ _ (decide_eq_false h2);by_cases h3:S.data.toList=[33,61]
 ·have b3:=isOp_eq S _ _ (decide_eq_true h3)
  have HX:Hid (v=3):=Lib.hid (by rw[hv,h3];decide);clear hv h0 h1 h2 h3;go_enter Tryz.func154,Tryz.ntmps154;go_wp2;go_ret;exact⟨ret_int HX.out.symm,rfl⟩
 have b3:=isOp_eq S _ _ (decide_eq_false h3);by_cases h4:S.data.toList=[60]
 ·have b4:=isOp_eq S _ _ (decide_eq_true h4)
  have HX:Hid (v=4):=Lib.hid (by rw[hv,h4];decide);clear hv h0 h1 h2 h3 h4;go_enter Tryz.func154,Tryz.ntmps154;go_wp2;go_ret;exact⟨ret_int HX.out.symm,rfl⟩
 have b4:=isOp_eq S _ _ (decide_eq_false h4);by_cases h5:S.data.toList=[62]
 ·have b5:=isOp_eq S _ _ (decide_eq_true h5)
  have HX:Hid (v=4):=Lib.hid (by rw[hv,h5];decide);clear hv h0 h1 h2 h3 h4 h5;go_enter Tryz.func154,Tryz.ntmps154;go_wp2;go_ret;exact⟨ret_int HX.out.symm,rfl⟩
 have b5:=isOp_eq S _ _ (decide_eq_false h5);by_cases h6:S.data.toList=[60,61]
 ·have b6:=isOp_eq S _ _ (decide_eq_true h6)
  have HX:Hid (v=4):=Lib.hid (by rw[hv,h6];decide);clear hv h0 h1 h2 h3 h4 h5 h6;go_enter Tryz.func154,Tryz.ntmps154;go_wp2;go_ret;exact⟨ret_int HX.out.symm,rfl⟩
 have b6:=isOp_eq S _ _ (decide_eq_false h6);by_cases h7:S.data.toList=[62,61]
 ·have b7:=isOp_eq S _ _ (decide_eq_true h7)
  have HX:Hid (v=4):=Lib.hid (by rw[hv,h7];decide);clear hv h0 h1 h2 h3 h4 h5 h6 h7;go_enter Tryz.func154,Tryz.ntmps154;go_wp2;go_ret;exact⟨ret_int HX.out.symm,rfl⟩
 have b7:=isOp_eq S _ _ (decide_eq_false h7);by_cases h8:S.data.toList=[43]
 ·have b8:=isOp_eq S _ _ (decide_eq_true h8)
  have HX:Hid (v=5):=Lib.hid (by rw[hv,h8];decide);clear hv h0 h1 h2 h3 h4 h5 h6 h7 h8;go_enter Tryz.func154,Tryz.ntmps154;go_wp2;go_ret;exact⟨ret_int HX.out.symm,rfl⟩
 have b8:=isOp_eq S _ _ (decide_eq_false h8);by_cases h9:S.data.toList=[45]
 ·have b9:=isOp_eq S _ _ (decide_eq_true h9)
  have HX:Hid (v=5):=Lib.hid (by rw[hv,h9];decide);clear hv h0 h1 h2 h3 h4 h5 h6 h7 h8 h9;go_enter Tryz.func154,Tryz.ntmps154;go_wp2;go_ret;exact⟨ret_int HX.out.symm,rfl⟩
 have b9:=isOp_eq S _ _ (decide_eq_false h9);by_cases h10:S.data.toList=[42]
 ·have b10:=isOp_eq S _ _ (decide_eq_true h10)
  have HX:Hid (v=6):=Lib.hid (by rw[hv,h10];decide);clear hv h0 h1 h2 h3 h4 h5 h6 h7 h8 h9 h10;go_enter Tryz.func154,Tryz.ntmps154;go_wp2;go_ret;exact⟨ret_int HX.out.symm,rfl⟩
 have b10:=isOp_eq S _ _ (decide_eq_false h10);by_cases h11:S.data.toList=[47]
 ·have b11:=isOp_eq S _ _ (decide_eq_true h11)
  have HX:Hid (v=6):=Lib.hid (by rw[hv,h11];decide);clear hv h0 h1 h2 h3 h4 h5 h6 h7 h8 h9 h10 h11;go_enter Tryz.func154,Tryz.ntmps154;go_wp2;go_ret;exact⟨ret_int HX.out.symm,rfl⟩
 have b11:=isOp_eq S _ _ (decide_eq_false h11);by_cases h12:S.data.toList=[37]
 ·have b12:=isOp_eq S _ _ (decide_eq_true h12)
  have HX:Hid (v=6):=Lib.hid (by rw[hv,h12];decide);clear hv h0 h1 h2 h3 h4 h5 h6 h7 h8 h9 h10 h11 h12;go_enter Tryz.func154,Tryz.ntmps154;go_wp2;go_ret;exact⟨ret_int HX.out.symm,rfl⟩
 have b12:=isOp_eq S _ _ (decide_eq_false h12);have HX:Hid (v=0):=Lib.hid (by rw[hv];unfold strong;simp[h0,h1,h2,h3,h4,h5,h6,h7,h8,h9,h10,h11,h12]);clear hv h0 h1 h2 h3 h4 h5 h6 h7 h8 h9 h10 h11 h12;go_enter Tryz.func154,Tryz.ntmps154;go_wp2;go_ret;exact⟨ret_int HX.out.symm,rfl⟩
theorem grown_trans {b:Nat} {w w1 w2:World} (h:w.grownBy w1 (some b)) (k:w1.grownBy w2 (some b)):w.grownBy w2 (some b):=
 ⟨k.os.trans h.os,k.tape.trans h.tape,k.output.trans h.output,Nat.le_trans h.size k.size,fun i hi hn=>(k.block i (Nat.lt_of_lt_of_le hi h.size) hn).trans (h.block i hi hn)⟩
theorem grown_below {b:Nat} {w w1:World} (h:Below w.heap.size w w1):w.grownBy w1 (some b):=⟨h.os,h.tape,h.output,h.size,fun k hk _=>h.block k hk⟩
theorem grown_set (b o:Nat) (w:World) (u:Value):w.grownBy (w.setCell ⟨b,o,none⟩ u) (some b):=⟨rfl,rfl,rfl,by simp[World.setCell],fun k _ hn=>Below.heap_setCell _ _ _ _ (fun e=>hn (by rw[e]))⟩
theorem grown_setc {b:Nat} {w W:World} (h:w.grownBy W (some b)) {c:Nat} (hc:w.heap.size≤c) (j:Nat) (u:Value):w.grownBy (W.setCell ⟨c,j,none⟩ u) (some b):=
 ⟨h.os,h.tape,h.output,by simpa[World.setCell] using h.size,fun k hk hn=>(Below.heap_setCell _ _ _ _ (by show k≠c;omega)).trans (h.block k hk hn)⟩
theorem grown_put5 {b:Nat} {w W:World} (h:w.grownBy W (some b)) {c:Nat} (hc:w.heap.size≤c) (v0 v1 v2 v3 v4:Value):w.grownBy (put5 W c v0 v1 v2 v3 v4) (some b):=
 grown_setc (grown_setc (grown_setc (grown_setc (grown_setc h hc _ _) hc _ _) hc _ _) hc _ _) hc _ _
theorem grown_alloc {b:Nat} {w W:World} (h:w.grownBy W (some b)) (o:Obj):w.grownBy (W.alloc o) (some b):=grown_trans h (grown_below ((Below.refl _ _).alloc (Nat.le_refl _) _))
theorem below_of_grown {b B:Nat} {w w1:World} (h:w.grownBy w1 (some b)) (hB:B≤b) (hw:B≤w.heap.size):Below B w w1:=
 ⟨h.os,h.tape,h.output,h.size,fun k hk=>h.block k (by omega) (fun e=>by injection e with e;omega)⟩
structure Box5 (w:World) (c:Nat) (v0 v1 v2 v3 v4:Value):Prop where
 c0:w.cell? ⟨c,0,none⟩=some v0
 c1:w.cell? ⟨c,1,none⟩=some v1
 c2:w.cell? ⟨c,2,none⟩=some v2
 c3:w.cell? ⟨c,3,none⟩=some v3
 c4:w.cell? ⟨c,4,none⟩=some v4
 fr:∀ q,q<5→w.frozen? ⟨c,q,none⟩=false
theorem Box5.freed {w:World} {c:Nat} {v0 v1 v2 v3 v4:Value} (h:Box5 w c v0 v1 v2 v3 v4):
  w.frozen? ⟨c,0,none⟩=false∧w.frozen? ⟨c,1,none⟩=false∧w.frozen? ⟨c,2,none⟩=false∧w.frozen? ⟨c,3,none⟩=false∧w.frozen? ⟨c,4,none⟩=false:=
 ⟨h.fr 0 (by omega),h.fr 1 (by omega),h.fr 2 (by omega),h.fr 3 (by omega),h.fr 4 (by omega)⟩
theorem set_same (w:World) (c j:Nat) (u u':Value) (h:w.cell? ⟨c,j,none⟩=some u):(w.setCell ⟨c,j,none⟩ u').cell? ⟨c,j,none⟩=some u':=World.cell?_setCell_same _ _ _ h
theorem set_ne (w:World) (c j i:Nat) (u':Value) (h:j≠i):(w.setCell ⟨c,j,none⟩ u').cell? ⟨c,i,none⟩=w.cell? ⟨c,i,none⟩:=World.cell?_setCell_other _ _ _ _ (fun e=>by injection e with _ e;omega)
theorem Box5.put {w:World} {c:Nat} {u0 u1 u2 u3 u4:Value} (h:Box5 w c u0 u1 u2 u3 u4) (v0 v1 v2 v3 v4:Value):Box5 (put5 w c v0 v1 v2 v3 v4) c v0 v1 v2 v3 v4:=by
 unfold put5;refine⟨?_,?_,?_,?_,?_,fun q hq=>?_⟩
 ·repeat rw[set_ne _ _ _ _ _ (by omega)]
  exact set_same _ _ _ _ _ h.c0
 ·repeat rw[set_ne _ _ _ _ _ (by omega)]
  exact set_same _ _ _ _ _ (by(repeat rw[set_ne _ _ _ _ _ (by omega)]);exact h.c1)
 ·repeat rw[set_ne _ _ _ _ _ (by omega)]
  exact set_same _ _ _ _ _ (by(repeat rw[set_ne _ _ _ _ _ (by omega)]);exact h.c2)
 ·repeat rw[set_ne _ _ _ _ _ (by omega)]
  exact set_same _ _ _ _ _ (by(repeat rw[set_ne _ _ _ _ _ (by omega)]);exact h.c3)
 ·exact set_same _ _ _ _ _ (by(repeat rw[set_ne _ _ _ _ _ (by omega)]);exact h.c4)
 ·simp only[World.frozen?_setCell];exact h.fr q hq
theorem Box5.grown {b c:Nat} {w w':World} {v0 v1 v2 v3 v4:Value} (h:Box5 w c v0 v1 v2 v3 v4) (hg:w.grownBy w' (some b)) (hn:c≠b):Box5 w' c v0 v1 v2 v3 v4:=by
 have hc:c<w.heap.size:=World.block_lt_of_cell? w _ h.c0;have e:w'.heap[c]?=w.heap[c]?:=hg.block c hc (fun e=>hn (by injection e));have k:∀ j,w'.cell? ⟨c,j,none⟩=w.cell? ⟨c,j,none⟩:=fun j=>World.cell?_of_block e
 exact⟨(k _).trans h.c0,(k _).trans h.c1,(k _).trans h.c2,(k _).trans h.c3,(k _).trans h.c4,fun q hq=>(World.frozen?_of_block e).trans (h.fr q hq)⟩
theorem Box5.low {c:Nat} {w w':World} {v0 v1 v2 v3 v4:Value} (h:Box5 w c v0 v1 v2 v3 v4) (hb:Below w.heap.size w w'):Box5 w' c v0 v1 v2 v3 v4:=h.grown (b:=c+1) (grown_below hb) (by omega)
theorem Box5.other {w:World} {c:Nat} {v0 v1 v2 v3 v4:Value} (h:Box5 w c v0 v1 v2 v3 v4) {a:Addr} (ha:a.block≠c) (u:Value):Box5 (w.setCell a u) c v0 v1 v2 v3 v4:=by
 have k:∀ j,(w.setCell a u).cell? ⟨c,j,none⟩=w.cell? ⟨c,j,none⟩:=fun j=>World.cell?_setCell_other _ _ _ _ (fun e=>ha (by rw[e]))
 exact⟨(k _).trans h.c0,(k _).trans h.c1,(k _).trans h.c2,(k _).trans h.c3,(k _).trans h.c4,fun q hq=>(World.frozen?_setCell ..).trans (h.fr q hq)⟩
theorem Box5.drews {w:World} {c:Nat} {v0 v1 v2 v3 v4:Value} (h:Box5 w c v0 v1 v2 v3 v4) (m:Nat):Box5 (w.drewN m) c v0 v1 v2 v3 v4:=⟨h.c0,h.c1,h.c2,h.c3,h.c4,h.fr⟩
theorem Box5.new (w:World) (T:TypeId) (v0 v1 v2 v3 v4:Value):Box5 (w.alloc (.cells #[v0,v1,v2,v3,v4] T)) w.heap.size v0 v1 v2 v3 v4:=by
 have k:∀ j u,[v0,v1,v2,v3,v4][j]?=some u→(w.alloc (.cells #[v0,v1,v2,v3,v4] T)).cell? ⟨w.heap.size,j,none⟩=some u:=fun j u h=>by
  have h0:=new_cells w T #[v0,v1,v2,v3,v4] j u h;have hadd:(⟨w.heap.size,0,none⟩:Addr).add j=⟨w.heap.size,j,none⟩:=by unfold Addr.add;split <;> simp_all
  rw[hadd] at h0;exact h0
 refine⟨k 0 _ rfl,k 1 _ rfl,k 2 _ rfl,k 3 _ rfl,k 4 _ rfl,fun q hq=>?_⟩;have h:q=0∨q=1∨q=2∨q=3∨q=4:=by omega
 rcases h with rfl | rfl | rfl | rfl | rfl <;> simp[go_sem]
theorem size_put5 (W:World) (c:Nat) (v0 v1 v2 v3 v4:Value):(put5 W c v0 v1 v2 v3 v4).heap.size=W.heap.size:=by simp[put5,World.setCell]
theorem block_put5 (W:World) (c:Nat) (v0 v1 v2 v3 v4:Value) {k:Nat} (hk:k≠c):(put5 W c v0 v1 v2 v3 v4).heap[k]?=W.heap[k]?:=by
 have e:∀ (W:World) (j:Nat) (u:Value),(W.setCell ⟨c,j,none⟩ u).heap[k]?=W.heap[k]?:=fun W j u=>Below.heap_setCell _ _ _ _ hk
 unfold put5;rw[e,e,e,e,e]
structure RdC (b:Nat) (w:World) (A:Option Addr) (n c:Nat) (l:List Tok) (k:Nat):Prop where
 c0:w.cell? ⟨b,0,none⟩=some (.slice A n c)
 c1:w.cell? ⟨b,1,none⟩=some (.int .i64 k)
 f1:w.frozen? ⟨b,1,none⟩=false
 row:RdT b w A n l
 giv:∀ w',Below b w w'→Given w'
theorem RdC.lt {b:Nat} {w:World} {A:Option Addr} {n c:Nat} {l:List Tok} {k:Nat} (h:RdC b w A n c l k):b<w.heap.size:=World.block_lt_of_cell? w _ h.c0
theorem RdC.low {b:Nat} {w w':World} {A:Option Addr} {n c:Nat} {l:List Tok} {k:Nat} (h:RdC b w A n c l k) (hb:Below w.heap.size w w'):RdC b w' A n c l k:=
 have hl:=h.lt;have hB:Below b w w':=hb.mono (by omega)
 ⟨(hb.cell (p:=⟨b,0,none⟩) hl).trans h.c0,(hb.cell (p:=⟨b,1,none⟩) hl).trans h.c1,(hb.frozen (p:=⟨b,1,none⟩) hl).trans h.f1,h.row.keep hB,fun w2 h2=>h.giv w2 (hB.trans h2)⟩
theorem RdC.other {b:Nat} {w:World} {A:Option Addr} {n c:Nat} {l:List Tok} {k:Nat} (h:RdC b w A n c l k) {a:Addr} (ha:b<a.block) (u:Value):RdC b (w.setCell a u) A n c l k:=by
 have hB:Below b w (w.setCell a u):=(Below.refl _ _).setCell (by omega) _;refine⟨?_,?_,?_,h.row.keep hB,fun w2 h2=>h.giv w2 (hB.trans h2)⟩
 ·rw[World.cell?_setCell_other _ _ _ _ (fun e=>by rw[e] at ha;exact absurd ha (Nat.lt_irrefl _))];exact h.c0
 ·rw[World.cell?_setCell_other _ _ _ _ (fun e=>by rw[e] at ha;exact absurd ha (Nat.lt_irrefl _))];exact h.c1
 ·rw[World.frozen?_setCell];exact h.f1
theorem RdC.put5 {b:Nat} {w:World} {A:Option Addr} {n c:Nat} {l:List Tok} {k:Nat} (h:RdC b w A n c l k) {q:Nat} (hq:b<q) (v0 v1 v2 v3 v4:Value):RdC b (put5 w q v0 v1 v2 v3 v4) A n c l k:=
 ((((h.other (a:=⟨q,0,none⟩) hq _).other (a:=⟨q,1,none⟩) hq _).other (a:=⟨q,2,none⟩) hq _).other (a:=⟨q,3,none⟩) hq _).other (a:=⟨q,4,none⟩) hq _
theorem below_placeX (b:Nat) (w:World) (u:Value):Below b w (w.setCell ⟨b,1,none⟩ u):=⟨rfl,rfl,rfl,by simp[World.setCell],fun k hk=>Below.heap_setCell _ _ _ _ (by show k≠b;omega)⟩
theorem RdC.place {b:Nat} {w:World} {A:Option Addr} {n c:Nat} {l:List Tok} {k:Nat} (h:RdC b w A n c l k) (j:Nat):RdC b (w.setCell ⟨b,1,none⟩ (.int .i64 j)) A n c l j:=by
 have hB:Below b w (w.setCell ⟨b,1,none⟩ (.int .i64 j)):=below_placeX b w _;refine⟨?_,World.cell?_setCell_same _ _ _ h.c1,?_,h.row.keep hB,fun w2 h2=>h.giv w2 (hB.trans h2)⟩
 ·rw[World.cell?_setCell_other _ _ _ _ (by simp)];exact h.c0
 ·rw[World.frozen?_setCell];exact h.f1
structure FitL (l:List Tok):Prop where
 ok:∀ t∈l,okT t=true
 fit:∀ t∈l,FitT t
 len:l.length≤1000000
def nxt (l:List Tok) (k:Nat):Tok:=l[k]?.getD ⟨0,[],0,[],0⟩
theorem nxt_at {l:List Tok} {k:Nat} {t:Tok} (h:l[k]?=some t):nxt l k=t:=by unfold nxt;rw[h];rfl
theorem nxt_end {l:List Tok} {k:Nat} (h:¬ k<l.length):nxt l k=⟨0,[],0,[],0⟩:=by unfold nxt;rw[List.getElem?_eq_none (by omega)];rfl
theorem sg_nxt (l:List Tok) (k:Nat):sg l k=if (nxt l k).kind=4 then (nxt l k).word else []:=by
 unfold sg nxt
 cases l[k]? with
 | none=>rfl
 | some t=>rfl
def NextP (w:World) (t:Tok) (e:Ending) (w':World):Prop:=∃ A c,e= .returned (.agg #[.int .i64 t.kind,.string ⟨t.word.toArray⟩,.int .i64 t.n,.slice A t.parts.length c,.int .i64 t.pl])∧Below w.heap.size w w'
theorem next_any (b:Nat) (w:World) (A:Option Addr) (n c:Nat) (l:List Tok) (k:Nat) (h:RdC b w A n c l k) (hf:FitL l) (hk:k≤n):
  Calls Tryz.prog 176 #[.pointer (some ⟨b,0,none⟩)] w (NextP w (nxt l k)):=by
 have hlen:=h.row.1;have hl:=hf.len;obtain⟨c0,c1,f1,row,giv⟩:=h;have hbl:b<w.heap.size:=World.block_lt_of_cell? w _ c0;by_cases a:k<n
 ·obtain⟨t,ht⟩:∃ t,l[k]?=some t:=⟨_,List.getElem?_eq_getElem (by omega)⟩
  rw[nxt_at ht];have hok:=hf.ok t (List.mem_of_getElem? ht);have hft:=hf.fit t (List.mem_of_getElem? ht);obtain⟨ad,A',c',rfl,h5,hrd⟩:=row.at_ ht
  have KT:Hid (∀ w',Below w.heap.size w w'→Calls Tryz.prog 42 #[tokA t A' c'] w' fun e w2=>e= .returned (.tuple #[.string (textB t),.int .i64 0])∧Below w'.heap.size w' w2):=Lib.hid fun w' hb'=>by
   have:=text_any t A' c' w' ((hrd.up (by omega)).onto hb') hft (giv w' (hb'.mono (by omega)));unfold errB at this;rw[hok,if_pos rfl] at this;exact this
  unfold tokA at KT;obtain⟨x0,x1,x2,x3,x4⟩:=h5;have hbt:(ad.add (k * 5)).block<w.heap.size:=World.block_lt_of_cell? w _ x0;obtain⟨W,hW⟩:∃ W:ByteArray,W=⟨t.word.toArray⟩:=⟨_,rfl⟩;obtain⟨m,hm⟩:∃ m,m=t.parts.length:=⟨_,rfl⟩;rw[←hW] at x1 KT;rw[←hm] at x3 KT;unfold NextP;rw[←hW,←hm];have b1:((k:Int)==(n:Int))=false:=by simp;omega
  have b2:(k==n)=false:=by simp;omega
  have hk1:(k:Int)<n:=by omega
  clear hrd hft hok ht hW hm row giv hf hlen hl;go_enter Tryz.func176,Tryz.ntmps176;go_wp2;go_quiet (fail);go_wp2
  go_region
  obtain⟨o1,ho1⟩:∃ o:Obj,o= .cells #[.int .i64 0,.string ⟨#[]⟩,.int .i64 0,.slice none 0 0,.int .i64 0] 53:=⟨_,rfl⟩;obtain⟨W1,hW1⟩:∃ W1,W1=((w.alloc o1).drewN (nq+1)).alloc (.cells #[.int .i64 t.kind,.string W,.int .i64 t.n,.slice A' m c',.int .i64 t.pl] 53):=⟨_,rfl⟩;have hs1:((w.alloc o1).drewN (nq+1)).heap.size=w.heap.size+1:=by simp[World.drewN]
  have HX1:Hid (Box5 W1 w.heap.size (.int .i64 0) (.string ⟨#[]⟩) (.int .i64 0) (.slice none 0 0) (.int .i64 0)):=Lib.hid (by
   rw[hW1,ho1];exact((Box5.new w _ _ _ _ _ _).drews _).low ((Below.refl _ _).alloc (Nat.le_refl _) _))
  have HT1:Hid (Box5 W1 (w.heap.size+1) (.int .i64 t.kind) (.string W) (.int .i64 t.n) (.slice A' m c') (.int .i64 t.pl)):=Lib.hid (by
   rw[hW1,←hs1];exact Box5.new _ _ _ _ _ _ _)
  have HB1:Hid (Below (w.heap.size+1) (w.alloc o1) W1):=Lib.hid (by
   rw[hW1];exact(below_drewN (Below.refl _ _) _).alloc (by rw[hs1];exact Nat.le_refl _) _)
  have hz:(w.alloc o1).heap.size=w.heap.size+1:=by simp
  rw[ho1] at hW1;rw[←hW1];clear hW1 hs1;have HB0:Hid (Below w.heap.size w W1):=Lib.hid (((Below.refl _ _).alloc (Nat.le_refl _) o1).trans (HB1.out.mono (by omega)));have hsz:=HB1.out.size;rw[hz] at hsz;have HZ:=Lib.hid hz;clear hz ho1 x0 x1 x2 x3 x4 c0 c1 f1;obtain⟨g0,g1,g2,g3,g4,_⟩:=HT1.out;go_wp2_with (go_at_call 42;go_must (((with_reducible refine(KT.out _ HB0.out).mono ?_));rintro e w2 ⟨rfl,hb2⟩;obtain⟨d0,d1,d2,d3,d4,_⟩:=HX1.out.low hb2;obtain⟨e0,e1,e2,e3,e4⟩:=(HX1.out.low hb2).freed;obtain⟨k0,k1,k2,k3,k4,_⟩:=HT1.out.low hb2;have HB2:=Lib.hid (HB1.out.trans (hb2.mono (by omega)));clear hb2));refine bodyPost_ret (v:= .agg #[.int .i64 t.kind,.string W,.int .i64 t.n,.slice A' m c',.int .i64 t.pl]) (by simp[results,Tryz.results176,go_sem,d0,d1,d2,d3,d4]) rfl ⟨A',c',rfl,?_⟩;exact box5_below (o:=o1) (by rw[HZ.out];exact HB2.out) _ _ _ _ _
 ·have hkn:k=n:=by omega
  rw[nxt_end (by omega)];unfold NextP;have b1:((k:Int)==(n:Int))=true:=by simp;omega
  have b2:(k==n)=true:=by simp;omega
  clear row giv hf hlen hl hkn;go_enter Tryz.func176,Tryz.ntmps176;go_wp2;go_quiet (fail);go_wp2;refine bodyPost_ret (v:= .agg #[.int .i64 0,.string ⟨#[]⟩,.int .i64 0,.slice none 0 0,.int .i64 0]) (by simp[results,Tryz.results176,go_sem]) rfl ⟨none,0,rfl,?_⟩;exact box5_below (below_drewN (Below.refl _ _) _) _ _ _ _ _
theorem nextsign_any (b:Nat) (w:World) (A:Option Addr) (n c:Nat) (l:List Tok) (k:Nat) (h:RdC b w A n c l k) (hf:FitL l) (hk:k≤n):
  Calls Tryz.prog 155 #[.pointer (some ⟨b,0,none⟩)] w fun e w'=>e= .returned (.string ⟨(sg l k).toArray⟩)∧Below w.heap.size w w':=by
 have K:=Lib.hid (next_any b w A n c l k h hf hk);obtain⟨S,hS⟩:∃ S:ByteArray,S=⟨(sg l k).toArray⟩:=⟨_,rfl⟩;rw[←hS];rw[sg_nxt] at hS;clear h hf hk;generalize nxt l k=t at K hS;by_cases e4:t.kind=4
 ·rw[if_pos e4] at hS
  obtain⟨K4,hK4⟩:∃ x,x=t.kind:=⟨_,rfl⟩;unfold NextP at K;rw[←hS,e4] at K;clear hS e4 hK4;go_enter Tryz.func155,Tryz.ntmps155;go_wp2_with (go_at_call 176;go_must (((with_reducible refine K.out.mono ?_));rintro e w1 ⟨A1,c1,rfl,hb1⟩;have HB1:=Lib.hid hb1;clear hb1));go_ret;exact⟨rfl,HB1.out.trans (((Below.refl _ _).alloc (Nat.le_refl _) _).mono HB1.out.size)⟩
 ·rw[if_neg e4,nilB] at hS
  subst hS;obtain⟨x,hx⟩:∃ x,x=t.kind:=⟨_,rfl⟩;have q4:(x != 4)=true:=by rw[hx];simpa using e4
  unfold NextP at K;rw[←hx] at K;clear hx e4;go_enter Tryz.func155,Tryz.ntmps155;go_wp2_with (go_at_call 176;go_must (((with_reducible refine K.out.mono ?_));rintro e w1 ⟨A1,c1,rfl,hb1⟩;have HB1:=Lib.hid hb1;clear hb1));go_ret;exact⟨rfl,HB1.out.trans (((Below.refl _ _).alloc (Nat.le_refl _) _).mono HB1.out.size)⟩
def FrX (lo hi:Nat):Nat→Prop:=fun k=>lo≤k∧k<hi
theorem KidsX.leaf (P:Nat→Prop) (w:World) (A:Option Addr) (k n:Int) (nm op:Bs):KidsX P w A (.mk k n nm op []):=by rw[KidsX];exact .inl rfl
theorem KidsX.wide {P Q:Nat→Prop} {w:World} {A:Option Addr} {r:Ex} (h:KidsX P w A r) (hPQ:∀ k,P k→Q k):KidsX Q w A r:=kidsX_of (fun _ _=>rfl) hPQ r A h
theorem KidsX.to {lo hi lo' hi':Nat} {w:World} {A:Option Addr} {r:Ex} (h:KidsX (FrX lo hi) w A r) (h1:lo'≤lo) (h2:hi≤hi'):KidsX (FrX lo' hi') w A r:=h.wide fun _ hk=>⟨Nat.le_trans h1 hk.1,Nat.lt_of_lt_of_le hk.2 h2⟩
theorem KidsX.over {P:Nat→Prop} {w w':World} {A:Option Addr} {r:Ex} (h:KidsX P w A r) (hg:∀ k,P k→w'.heap[k]?=w.heap[k]?):KidsX P w' A r:=
 kidsX_of (fun _ ha=>World.cell?_of_block (hg _ ha)) (fun _ hk=>hk) r A h
theorem KidsX.grownX {b:Nat} {P:Nat→Prop} {w w':World} {A:Option Addr} {r:Ex} (h:KidsX P w A r) (hg:w.grownBy w' (some b)) (hP:∀ k,P k→k<w.heap.size∧k≠b):KidsX P w' A r:=
 h.over fun k hk=>hg.block k (hP k hk).1 (fun e=>(hP k hk).2 (by injection e))
theorem KidsX.put5 {P:Nat→Prop} {w:World} {A:Option Addr} {r:Ex} (h:KidsX P w A r) {c:Nat} (hc:¬ P c) (v0 v1 v2 v3 v4:Value):KidsX P (put5 w c v0 v1 v2 v3 v4) A r:=
 h.over fun _ hk=>block_put5 _ _ _ _ _ _ _ (fun e=>hc (e ▸ hk))
theorem KidsX.allocX {P:Nat→Prop} {w:World} {A:Option Addr} {r:Ex} (h:KidsX P w A r) (hP:∀ k,P k→k<w.heap.size) (o:Obj):KidsX P (w.alloc o) A r:=
 h.over fun k hk=>(Below.alloc (Below.refl w.heap.size w) (Nat.le_refl _) o).block k (hP k hk)
theorem valX_eq (x:Ex) (A:Option Addr) (c:Nat):valX x A c= .agg #[.int .i64 x.kind,.int .i64 x.n,.string ⟨x.name.toArray⟩,.string ⟨x.op.toArray⟩,.slice A x.kids.length c]:=by cases x;rfl
theorem atX_eq {w:World} {a:Addr} {x:Ex} {A:Option Addr} {c:Nat} (h0:w.cell? a=some (.int .i64 x.kind)) (h1:w.cell? ⟨a.block,a.off+1,none⟩=some (.int .i64 x.n)) (h2:w.cell? ⟨a.block,a.off+2,none⟩=some (.string ⟨x.name.toArray⟩))
 (h3:w.cell? ⟨a.block,a.off+3,none⟩=some (.string ⟨x.op.toArray⟩)) (h4:w.cell? ⟨a.block,a.off+4,none⟩=some (.slice A x.kids.length c)):AtX w a x A c:=by cases x;exact⟨h0,h1,h2,h3,h4⟩
theorem new_at (W:World) (T:TypeId) (cs:Array Value) (j:Nat) (u:Value) (h:cs.toList[j]?=some u):(W.alloc (.cells cs T)).cell? ⟨W.heap.size,j,none⟩=some u:=by
 have h0:=new_cells W T cs j u h;have hadd:(⟨W.heap.size,0,none⟩:Addr).add j=⟨W.heap.size,j,none⟩:=by unfold Addr.add;split <;> simp_all
 rw[hadd] at h0;exact h0
theorem kid_one {P:Nat→Prop} {W:World} {x:Ex} {A:Option Addr} {c:Nat} (h:KidsX P W A x) (hP:∀ k,P k→k<W.heap.size) (k n:Int) (nm op:Bs):
  KidsX (fun j=>P j∨j=W.heap.size) (W.alloc (.cells #[.int .i64 x.kind,.int .i64 x.n,.string ⟨x.name.toArray⟩,.string ⟨x.op.toArray⟩,.slice A x.kids.length c] 38)) (some ⟨W.heap.size,0,none⟩) (.mk k n nm op [x]):=by
 rw[KidsX];refine .inr ⟨_,rfl,.inr rfl,?_⟩;rw[KidsXL,KidsXL];have e:(⟨W.heap.size,0,none⟩:Addr).add (0 * 5)=⟨W.heap.size,0,none⟩:=by simp[Addr.add]
 rw[e];exact⟨⟨A,c,atX_eq (new_at _ _ _ 0 _ rfl) (new_at _ _ _ 1 _ rfl) (new_at _ _ _ 2 _ rfl) (new_at _ _ _ 3 _ rfl) (new_at _ _ _ 4 _ rfl),(h.allocX hP _).wide fun _ hk=> .inl hk⟩,trivial⟩
theorem kid_two {P:Nat→Prop} {W:World} {x y:Ex} {A A':Option Addr} {c c':Nat} (h:KidsX P W A x) (h':KidsX P W A' y) (hP:∀ k,P k→k<W.heap.size) (k n:Int) (nm op:Bs):
  KidsX (fun j=>P j∨j=W.heap.size) (W.alloc (.cells #[.int .i64 x.kind,.int .i64 x.n,.string ⟨x.name.toArray⟩,.string ⟨x.op.toArray⟩,.slice A x.kids.length c,.int .i64 y.kind,.int .i64 y.n,.string ⟨y.name.toArray⟩,.string ⟨y.op.toArray⟩,.slice A' y.kids.length c'] 38)) (some ⟨W.heap.size,0,none⟩) (.mk k n nm op [x,y]):=by
 rw[KidsX];refine .inr ⟨_,rfl,.inr rfl,?_⟩;rw[KidsXL,KidsXL,KidsXL];have e:(⟨W.heap.size,0,none⟩:Addr).add (0 * 5)=⟨W.heap.size,0,none⟩:=by simp[Addr.add]
 have e1:(⟨W.heap.size,0,none⟩:Addr).add ((0+1) * 5)=⟨W.heap.size,5,none⟩:=by simp[Addr.add]
 rw[e,e1]
 exact⟨⟨A,c,atX_eq (new_at _ _ _ 0 _ rfl) (new_at _ _ _ 1 _ rfl) (new_at _ _ _ 2 _ rfl) (new_at _ _ _ 3 _ rfl) (new_at _ _ _ 4 _ rfl),(h.allocX hP _).wide fun _ hk=> .inl hk⟩,
  ⟨A',c',atX_eq (new_at _ _ _ 5 _ rfl) (new_at _ _ _ 6 _ rfl) (new_at _ _ _ 7 _ rfl) (new_at _ _ _ 8 _ rfl) (new_at _ _ _ 9 _ rfl),(h'.allocX hP _).wide fun _ hk=> .inl hk⟩,trivial⟩
theorem RdC.placez {b:Nat} {w:World} {A:Option Addr} {n c:Nat} {l:List Tok} {k:Nat} (h:RdC b w A n c l k) (j:Nat) (z:Int) (hz:z=j):RdC b (w.setCell ⟨b,1,none⟩ (.int .i64 z)) A n c l j:=by subst hz;exact h.place j
theorem RdC.box {b:Nat} {w:World} {A:Option Addr} {n c:Nat} {l:List Tok} {k:Nat} (h:RdC b w A n c l k) (o:Obj):RdC b (w.alloc o) A n c l k:=h.low ((Below.refl _ _).alloc (Nat.le_refl _) _)
def PostC (b:Nat) (w:World) (A:Option Addr) (n c:Nat) (l:List Tok) (r:Rs) (e:Ending) (w':World):Prop:=w.grownBy w' (some b)∧match r with
 | .ok x j=>(∃ A' c',e= .returned (.tuple #[.agg #[.int .i64 x.kind,.int .i64 x.n,.string ⟨x.name.toArray⟩,.string ⟨x.op.toArray⟩,.slice A' x.kids.length c'],.int .i64 0])∧KidsX (FrX w.heap.size w'.heap.size) w' A' x)∧RdC b w' A n c l j
 | .bad j er=>e= .returned (.tuple #[.agg #[.int .i64 0,.int .i64 0,.string ⟨#[]⟩,.string ⟨#[]⟩,.slice none 0 0],.int .i64 er])∧RdC b w' A n c l j
def ConOne (b:Nat) (A:Option Addr) (n c:Nat) (l:List Tok) (k d:Nat) (r:Rs):Prop:=∀ w,RdC b w A n c l k→Calls Tryz.prog 153 #[.pointer (some ⟨b,0,none⟩),.int .i64 d] w (PostC b w A n c l r)
def ConRow (b:Nat) (A:Option Addr) (n c:Nat) (l:List Tok) (m k d:Nat) (r:Rs):Prop:=∀ w,RdC b w A n c l k→Calls Tryz.prog 131 #[.pointer (some ⟨b,0,none⟩),.int .i64 m,.int .i64 d] w (PostC b w A n c l r)
structure BoxR (b:Nat) (w w1 w2:World):Prop where
 box:Box5 w2 w.heap.size (.int .i64 0) (.int .i64 0) (.string ⟨#[]⟩) (.string ⟨#[]⟩) (.slice none 0 0)
 lt:w.heap.size<w2.heap.size
 grown:w.grownBy w2 (some b)
 size:w1.heap.size≤w2.heap.size
abbrev zeroX:Obj:= .cells #[.int .i64 0,.int .i64 0,.string ⟨#[]⟩,.string ⟨#[]⟩,.slice none 0 0] 38
theorem boxr_of {b:Nat} {w w2:World} (u:Value) (hlt:b<w.heap.size) (hg:((w.setCell ⟨b,1,none⟩ u).alloc zeroX).grownBy w2 (some b)):BoxR b w ((w.setCell ⟨b,1,none⟩ u).alloc zeroX) w2:=by
 have hs:(w.setCell ⟨b,1,none⟩ u).heap.size=w.heap.size:=by simp[World.setCell]
 have h1:=Box5.new (w.setCell ⟨b,1,none⟩ u) 38 (.int .i64 0) (.int .i64 0) (.string ⟨#[]⟩) (.string ⟨#[]⟩) (.slice none 0 0);rw[hs] at h1;have h2:=hg.size;simp only[World.size_alloc,hs] at h2;exact⟨h1.grown hg (by omega),by omega,grown_trans (grown_alloc (grown_set b 1 w u) _) hg,hg.size⟩
structure EndR (b:Nat) (w W3:World) (A:Option Addr) (n c:Nat) (l:List Tok) (j:Nat) (v0 v1 v2 v3 v4:Value):Prop where
 box:Box5 W3 w.heap.size v0 v1 v2 v3 v4
 grown:w.grownBy W3 (some b)
 rd:RdC b W3 A n c l j
theorem end_all {b:Nat} {w W W3:World} {A:Option Addr} {n c:Nat} {l:List Tok} {j:Nat} {u0 u1 u2 u3 u4 v0 v1 v2 v3 v4:Value} (hb:b<w.heap.size) (hx:Box5 W w.heap.size u0 u1 u2 u3 u4) (hg:w.grownBy W (some b)) (hr:RdC b W A n c l j)
  (h3:Below (put5 W w.heap.size v0 v1 v2 v3 v4).heap.size (put5 W w.heap.size v0 v1 v2 v3 v4) W3):EndR b w W3 A n c l j v0 v1 v2 v3 v4:=
 ⟨(hx.put _ _ _ _ _).low h3,grown_trans (grown_put5 hg (Nat.le_refl _) _ _ _ _ _) (grown_below h3),(hr.put5 hb _ _ _ _ _).low h3⟩
theorem one_boxX (w:World) (o:Obj):Below w.heap.size w (w.alloc o):=(Below.refl _ _).alloc (Nat.le_refl _) _
theorem signed_deep (b:Nat) (w:World) (A:Option Addr) (n c:Nat) (l:List Tok) (k:Nat) (kd:Int) (h:RdC b w A n c l k):
  Calls Tryz.prog 177 #[.pointer (some ⟨b,0,none⟩),.int .i64 kd,.int .i64 64] w (PostC b w A n c l (.bad k 8)):=by
 have hlt:=h.lt;have H:=Lib.hid h;clear h;go_enter Tryz.func177,Tryz.ntmps177;go_wp2;refine bodyPost_ret (v:= .tuple #[.agg #[.int .i64 0,.int .i64 0,.string ⟨#[]⟩,.string ⟨#[]⟩,.slice none 0 0],.int .i64 8]) (by simp[results,Tryz.results177,go_sem]) rfl ⟨?_,rfl,?_⟩
 ·exact grown_below ((Below.refl _ _).alloc (Nat.le_refl _) _)
 ·exact H.out.box _
theorem signed_bad (b:Nat) (w:World) (A:Option Addr) (n c:Nat) (l:List Tok) (k d:Nat) (kd:Int) (h:RdC b w A n c l k) (hkb:k≤1000000) (hd:d<64) (j er:Nat) (he:er≠0) (HK:ConOne b A n c l (k+1) (d+1) (.bad j er)):
  Calls Tryz.prog 177 #[.pointer (some ⟨b,0,none⟩),.int .i64 kd,.int .i64 d] w (PostC b w A n c l (.bad j er)):=by
 have hlt:=h.lt;have H1:Hid (∀ o,RdC b ((w.setCell ⟨b,1,none⟩ (.int .i64 ((k:Int)+1))).alloc o) A n c l (k+1)):=Lib.hid fun o=>(h.placez (k+1) _ (by omega)).box o
 obtain⟨c0,c1,f1,_,_⟩:=h;have K:Hid (∀ w,RdC b w A n c l (k+1)→Calls Tryz.prog 153 #[.pointer (some ⟨b,0,none⟩),.int .i64 ((d:Int)+1)] w (PostC b w A n c l (.bad j er))):=Lib.hid HK;have b1:((d:Int)==64)=false:=by simp;omega
 have b2:((er:Int) != 0)=true:=by simp;omega
 have b3:(er != 0)=true:=by simp;omega
 clear HK he;go_enter Tryz.func177,Tryz.ntmps177;go_wp2_with (go_at_call 153;go_must ((with_reducible refine(K.out _ (H1.out _)).mono ?_);rintro e w2 ⟨hg2,rfl,hr2⟩;have HB:=Lib.hid (boxr_of _ hlt hg2);have hq:=HB.out.lt;obtain⟨d0,d1,d2,d3,d4,_⟩:=HB.out.box;obtain⟨e0,e1,e2,e3,e4⟩:=HB.out.box.freed;have HR:=Lib.hid hr2;clear hg2 hr2));obtain⟨W3,hW3⟩:∃ W3,W3=(put5 w2 w.heap.size (.int .i64 0) (.int .i64 0) (.string ⟨#[]⟩) (.string ⟨#[]⟩) (.slice none 0 0)).alloc zeroX:=⟨_,rfl⟩;have HE:EndR b w W3 A n c l j (.int .i64 0) (.int .i64 0) (.string ⟨#[]⟩) (.string ⟨#[]⟩) (.slice none 0 0):=end_all hlt HB.out.box HB.out.grown HR.out (by rw[hW3];exact one_boxX _ _);rw[←hW3];clear hW3 d0 d1 d2 d3 d4;obtain⟨d0,d1,d2,d3,d4,_⟩:=HE.box;exact bodyPost_ret (v:= .tuple #[.agg #[.int .i64 0,.int .i64 0,.string ⟨#[]⟩,.string ⟨#[]⟩,.slice none 0 0],.int .i64 er]) (by simp[results,Tryz.results177,go_sem,d0,d1,d2,d3,d4]) rfl ⟨HE.grown,rfl,HE.rd⟩
theorem signed_ok (b:Nat) (w:World) (A:Option Addr) (n c:Nat) (l:List Tok) (k d:Nat) (kd:Int) (h:RdC b w A n c l k) (hkb:k≤1000000) (hd:d<64) (x:Ex) (j:Nat) (HK:ConOne b A n c l (k+1) (d+1) (.ok x j)):
  Calls Tryz.prog 177 #[.pointer (some ⟨b,0,none⟩),.int .i64 kd,.int .i64 d] w (PostC b w A n c l (.ok (.mk kd 0 [] [] [x]) j)):=by
 have hlt:=h.lt;have H1:Hid (∀ o,RdC b ((w.setCell ⟨b,1,none⟩ (.int .i64 ((k:Int)+1))).alloc o) A n c l (k+1)):=Lib.hid fun o=>(h.placez (k+1) _ (by omega)).box o
 obtain⟨c0,c1,f1,_,_⟩:=h;have K:Hid (∀ w,RdC b w A n c l (k+1)→Calls Tryz.prog 153 #[.pointer (some ⟨b,0,none⟩),.int .i64 ((d:Int)+1)] w (PostC b w A n c l (.ok x j))):=Lib.hid HK;have b1:((d:Int)==64)=false:=by simp;omega
 clear HK;go_enter Tryz.func177,Tryz.ntmps177;go_wp2_with (go_at_call 153;go_must ((with_reducible refine(K.out _ (H1.out _)).mono ?_);rintro e w2 ⟨hg2,⟨A2,c2,rfl,hk2⟩,hr2⟩;have HB:=Lib.hid (boxr_of _ hlt hg2);have hq:=HB.out.lt;obtain⟨d0,d1,d2,d3,d4,_⟩:=HB.out.box;obtain⟨e0,e1,e2,e3,e4⟩:=HB.out.box.freed;have HR:=Lib.hid hr2;have HKD:=Lib.hid hk2;clear hg2 hr2 hk2));obtain⟨W,hW⟩:∃ W,W=(put5 w2 w.heap.size (.int .i64 kd) (.int .i64 0) (.string ⟨#[]⟩) (.string ⟨#[]⟩) (.slice (some ⟨w2.heap.size+1,0,none⟩) 1 1)).alloc (.cells #[.int .i64 x.kind,.int .i64 x.n,.string ⟨x.name.toArray⟩,.string ⟨x.op.toArray⟩,.slice A2 x.kids.length c2] 38):=⟨_,rfl⟩;have hs:W.heap.size=w2.heap.size+1:=by rw[hW];simp
 obtain⟨W3,hW3⟩:∃ W3,W3=W.alloc (.cells #[.int .i64 x.kind,.int .i64 x.n,.string ⟨x.name.toArray⟩,.string ⟨x.op.toArray⟩,.slice A2 x.kids.length c2] 38):=⟨_,rfl⟩;have HE:EndR b w W3 A n c l j (.int .i64 kd) (.int .i64 0) (.string ⟨#[]⟩) (.string ⟨#[]⟩) (.slice (some ⟨w2.heap.size+1,0,none⟩) 1 1):=end_all hlt HB.out.box HB.out.grown HR.out (by rw[hW3,hW];exact(one_boxX _ _).trans ((one_boxX _ _).mono (by simp)))
 have hk3:KidsX (FrX w.heap.size W3.heap.size) W3 (some ⟨w2.heap.size+1,0,none⟩) (.mk kd 0 [] [] [x]):=by
  have g1:=HKD.out;have hl1:((w.setCell ⟨b,1,none⟩ (.int .i64 ((k:Int)+1))).alloc zeroX).heap.size=w.heap.size+1:=by simp
  rw[hl1] at g1;have g2:=(g1.put5 (c:=w.heap.size) (fun hp=>by unfold FrX at hp;omega) (.int .i64 kd) (.int .i64 0) (.string ⟨#[]⟩) (.string ⟨#[]⟩) (.slice (some ⟨w2.heap.size+1,0,none⟩) 1 1)).allocX (fun k hk=>by rw[size_put5];exact hk.2) (.cells #[.int .i64 x.kind,.int .i64 x.n,.string ⟨x.name.toArray⟩,.string ⟨x.op.toArray⟩,.slice A2 x.kids.length c2] 38);rw[←hW] at g2;have g3:=kid_one (c:=c2) g2 (fun k hk=>by rw[hs];have:=hk.2;omega) kd 0 [] [];rw[←hW3,hs] at g3;have hs3:W3.heap.size=w2.heap.size+2:=by rw[hW3];simp[hs]
  exact g3.wide fun q hp=>by
   rw[hs3]
   rcases hp with hp | rfl
   ·exact⟨by have:=hp.1;omega,by have:=hp.2;omega⟩
   ·exact⟨by omega,by omega⟩
 rw[←hW,←hW3];clear hW hW3 d0 d1 d2 d3 d4;obtain⟨d0,d1,d2,d3,d4,_⟩:=HE.box;exact bodyPost_ret (v:= .tuple #[.agg #[.int .i64 kd,.int .i64 0,.string ⟨#[]⟩,.string ⟨#[]⟩,.slice (some ⟨w2.heap.size+1,0,none⟩) 1 1],.int .i64 0]) (by simp[results,Tryz.results177,go_sem,d0,d1,d2,d3,d4]) rfl ⟨HE.grown,⟨_,1,rfl,hk3⟩,HE.rd⟩
theorem ba_of (l:Bs):∃ X:ByteArray,X.toList=l∧(⟨l.toArray⟩:ByteArray)=X:=⟨⟨l.toArray⟩,by rw[toList_data],rfl⟩
theorem mayL_snoc (x:Ex) (d:Nat):∀ l:List Ex,mayL (l++[x]) d=(mayL l d && mayX x d)
 | []=>by rw[List.nil_append,mayL,mayL,mayL];simp
 | y::l=>by rw[List.cons_append,mayL,mayL,mayL_snoc x d l,Bool.and_assoc]
theorem mayL_take {l:List Ex} {k d:Nat} {x:Ex} (h:l[k]?=some x) (hp:mayL (l.take k) d=true):mayL (l.take (k+1)) d=mayX x d:=by
 obtain⟨hk,e⟩:=List.getElem?_eq_some_iff.1 h;rw[List.take_succ_eq_append_getElem hk,e,mayL_snoc,hp,Bool.true_and]
theorem mayL_not {l:List Ex} {k d:Nat} {x:Ex} (h:l[k]?=some x) (hx:mayX x d=false):mayL l d=false:=by
 rw[Bool.eq_false_iff];intro hl;have:=mayL_all hl x (List.mem_of_getElem? h);rw[hx] at this;cases this
theorem inner_deep (b:Nat) (w:World) (A:Option Addr) (n c:Nat) (l:List Tok) (k:Nat) (h:RdC b w A n c l k):
  Calls Tryz.prog 178 #[.pointer (some ⟨b,0,none⟩),.int .i64 64] w (PostC b w A n c l (.bad k 8)):=by
 have H:=Lib.hid h;clear h;go_enter Tryz.func178,Tryz.ntmps178;go_wp2;exact bodyPost_ret (v:= .tuple #[.agg #[.int .i64 0,.int .i64 0,.string ⟨#[]⟩,.string ⟨#[]⟩,.slice none 0 0],.int .i64 8]) (by simp[results,Tryz.results178,go_sem]) rfl ⟨grown_below (one_boxX _ _),rfl,H.out.box _⟩
theorem inner_bad (b:Nat) (w:World) (A:Option Addr) (n c:Nat) (l:List Tok) (k d:Nat) (h:RdC b w A n c l k) (hkb:k≤1000000) (hd:d<64) (j er:Nat) (he:er≠0) (HK:ConRow b A n c l 1 (k+1) (d+1) (.bad j er)):
  Calls Tryz.prog 178 #[.pointer (some ⟨b,0,none⟩),.int .i64 d] w (PostC b w A n c l (.bad j er)):=by
 have hlt:=h.lt;have H1:Hid (∀ o,RdC b ((w.setCell ⟨b,1,none⟩ (.int .i64 ((k:Int)+1))).alloc o) A n c l (k+1)):=Lib.hid fun o=>(h.placez (k+1) _ (by omega)).box o
 obtain⟨c0,c1,f1,_,_⟩:=h;have K:Hid (∀ w,RdC b w A n c l (k+1)→Calls Tryz.prog 131 #[.pointer (some ⟨b,0,none⟩),.int .i64 1,.int .i64 ((d:Int)+1)] w (PostC b w A n c l (.bad j er))):=Lib.hid HK;have b1:((d:Int)==64)=false:=by simp;omega
 have b2:((er:Int) != 0)=true:=by simp;omega
 have b3:(er != 0)=true:=by simp;omega
 clear HK he;go_enter Tryz.func178,Tryz.ntmps178;go_wp2_with (go_at_call 131;go_must ((with_reducible refine(K.out _ (H1.out _)).mono ?_);rintro e w2 ⟨hg2,rfl,hr2⟩;have HB:=Lib.hid (boxr_of _ hlt hg2);have hq:=HB.out.lt;obtain⟨d0,d1,d2,d3,d4,_⟩:=HB.out.box;obtain⟨e0,e1,e2,e3,e4⟩:=HB.out.box.freed;have HR:=Lib.hid hr2;clear hg2 hr2));obtain⟨W3,hW3⟩:∃ W3,W3=(put5 w2 w.heap.size (.int .i64 0) (.int .i64 0) (.string ⟨#[]⟩) (.string ⟨#[]⟩) (.slice none 0 0)).alloc zeroX:=⟨_,rfl⟩;have HE:EndR b w W3 A n c l j (.int .i64 0) (.int .i64 0) (.string ⟨#[]⟩) (.string ⟨#[]⟩) (.slice none 0 0):=end_all hlt HB.out.box HB.out.grown HR.out (by rw[hW3];exact one_boxX _ _);unfold put5 at hW3;rw[←hW3];clear hW3 d0 d1 d2 d3 d4;obtain⟨d0,d1,d2,d3,d4,_⟩:=HE.box;exact bodyPost_ret (v:= .tuple #[.agg #[.int .i64 0,.int .i64 0,.string ⟨#[]⟩,.string ⟨#[]⟩,.slice none 0 0],.int .i64 er]) (by simp[results,Tryz.results178,go_sem,d0,d1,d2,d3,d4]) rfl ⟨HE.grown,rfl,HE.rd⟩
structure MidR (b:Nat) (w w2 W:World) (A:Option Addr) (n c:Nat) (l:List Tok) (j:Nat) (x:Ex) (A2:Option Addr) (c2:Nat):Prop where
 box:Box5 W w.heap.size (.int .i64 0) (.int .i64 0) (.string ⟨#[]⟩) (.string ⟨#[]⟩) (.slice none 0 0)
 box2:Box5 W w2.heap.size (.int .i64 x.kind) (.int .i64 x.n) (.string ⟨x.name.toArray⟩) (.string ⟨x.op.toArray⟩) (.slice A2 x.kids.length c2)
 grown:w.grownBy W (some b)
 rd:RdC b W A n c l j
 kids:KidsX (FrX (w.heap.size+1) w2.heap.size) W A2 x
 lt:w.heap.size<w2.heap.size
 lt2:w2.heap.size<W.heap.size
theorem midr_of {b:Nat} {w w1 w2 W:World} {A:Option Addr} {n c:Nat} {l:List Tok} {j:Nat} {x:Ex} {A2:Option Addr} {c2:Nat} (h:BoxR b w w1 w2) (h1:w1.heap.size=w.heap.size+1) (hr:RdC b w2 A n c l j) (hk:KidsX (FrX w1.heap.size w2.heap.size) w2 A2 x)
  (hb:Below (w2.heap.size+1) (w2.alloc (.cells #[.int .i64 x.kind,.int .i64 x.n,.string ⟨x.name.toArray⟩,.string ⟨x.op.toArray⟩,.slice A2 x.kids.length c2] 38)) W):MidR b w w2 W A n c l j x A2 c2:=by
 have hs:(w2.alloc (.cells #[.int .i64 x.kind,.int .i64 x.n,.string ⟨x.name.toArray⟩,.string ⟨x.op.toArray⟩,.slice A2 x.kids.length c2] 38)).heap.size=w2.heap.size+1:=by simp
 rw[←hs] at hb;have hall:Below w2.heap.size w2 W:=(one_boxX _ _).trans (hb.mono (by omega));rw[h1] at hk;exact⟨h.box.low hall,(Box5.new w2 _ _ _ _ _ _).low hb,grown_trans h.grown (grown_below hall),hr.low hall,hk.over fun k hk=>hall.block k hk.2,h.lt,by have:=hb.size;omega⟩
theorem sgB (l:List Tok) (j:Nat) (S:ByteArray) (hS:S=⟨(sg l j).toArray⟩) (p:Bs) (b:Bool) (h:decide (sg l j=p)=b):(S.toList==p)=b∧(S.toList != p)= !b:=by
 have e:S.toList=sg l j:=by rw[toList_data,hS]
 rw[e,←h];by_cases hp:sg l j=p <;> simp[hp]
theorem inner_shut (b:Nat) (w:World) (A:Option Addr) (n c:Nat) (l:List Tok) (k d:Nat) (h:RdC b w A n c l k) (hf:FitL l) (hkb:k≤1000000) (hd:d<64) (x:Ex) (j:Nat) (hj:j≤n) (hs:sg l j=[41]) (HK:ConRow b A n c l 1 (k+1) (d+1) (.ok x j)):
  Calls Tryz.prog 178 #[.pointer (some ⟨b,0,none⟩),.int .i64 d] w (PostC b w A n c l (.ok x (j+1))):=by
 have hlt:=h.lt;have hjb:j≤1000000:=by have:=h.row.1;have:=hf.len;omega
 have H1:Hid (∀ o,RdC b ((w.setCell ⟨b,1,none⟩ (.int .i64 ((k:Int)+1))).alloc o) A n c l (k+1)):=Lib.hid fun o=>(h.placez (k+1) _ (by omega)).box o
 obtain⟨c0,c1,f1,_,_⟩:=h;have K:Hid (∀ w,RdC b w A n c l (k+1)→Calls Tryz.prog 131 #[.pointer (some ⟨b,0,none⟩),.int .i64 1,.int .i64 ((d:Int)+1)] w (PostC b w A n c l (.ok x j))):=Lib.hid HK;obtain⟨S,hS⟩:∃ S:ByteArray,S=⟨(sg l j).toArray⟩:=⟨_,rfl⟩;have KS:Hid (∀ w,RdC b w A n c l j→Calls Tryz.prog 155 #[.pointer (some ⟨b,0,none⟩)] w fun e w'=>e= .returned (.string S)∧Below w.heap.size w w'):=Lib.hid fun w h=>by rw[hS];exact nextsign_any b w A n c l j h hf hj
 obtain⟨s1,s2⟩:=sgB l j S hS [41] true (by simp[hs]);have b1:((d:Int)==64)=false:=by simp;omega
 clear HK hS hs hf hj;go_enter Tryz.func178,Tryz.ntmps178;go_wp2_with (first | (go_at_call 131;go_must ((with_reducible refine(K.out _ (H1.out _)).mono ?_);rintro e w2 ⟨hg2,⟨A2,c2,rfl,hk2⟩,hr2⟩;have HB:=Lib.hid (boxr_of _ hlt hg2);have HR:=Lib.hid hr2;have HKD:=Lib.hid hk2;clear hg2 hr2 hk2)) | (go_at_call 155;go_must ((with_reducible refine(KS.out _ (HR.out.box _)).mono ?_);rintro e w3 ⟨rfl,hb3⟩;have HM:=Lib.hid (midr_of HB.out (by simp) HR.out HKD.out (hb3.mono (by simp)));clear hb3;obtain⟨d0,d1,d2,d3,d4,_⟩:=HM.out.box;obtain⟨e0,e1,e2,e3,e4⟩:=HM.out.box.freed;obtain⟨g0,g1,g2,g3,g4,_⟩:=HM.out.box2;have hr0:=HM.out.rd.c0;have hr1:=HM.out.rd.c1;have hr2:=HM.out.rd.f1;have hl1:=HM.out.lt;have hl2:=HM.out.lt2)));obtain⟨W,hW⟩:∃ W,W=w3.setCell ⟨b,1,none⟩ (.int .i64 ((j:Int)+1)):=⟨_,rfl⟩;have hsW:W.heap.size=w3.heap.size:=by rw[hW];simp[World.setCell]
 have hbx:Box5 W w.heap.size (.int .i64 0) (.int .i64 0) (.string ⟨#[]⟩) (.string ⟨#[]⟩) (.slice none 0 0):=by rw[hW];exact HM.out.box.other (a:=⟨b,1,none⟩) (by show b≠w.heap.size;omega) _
 have hrd:RdC b W A n c l (j+1):=by rw[hW];exact HM.out.rd.placez (j+1) _ (by omega)
 have hgr:w.grownBy W (some b):=by rw[hW];exact grown_trans HM.out.grown (grown_set b 1 _ _)
 have hkd:KidsX (FrX (w.heap.size+1) w2.heap.size) W A2 x:=by rw[hW];exact HM.out.kids.over fun k hk=>Below.heap_setCell _ _ _ _ (by have:=hk.1;show k≠b;omega)
 rw[←hW];obtain⟨W3,hW3⟩:∃ W3,W3=put5 W w.heap.size (.int .i64 x.kind) (.int .i64 x.n) (.string ⟨x.name.toArray⟩) (.string ⟨x.op.toArray⟩) (.slice A2 x.kids.length c2):=⟨_,rfl⟩;have HE:EndR b w W3 A n c l (j+1) (.int .i64 x.kind) (.int .i64 x.n) (.string ⟨x.name.toArray⟩) (.string ⟨x.op.toArray⟩) (.slice A2 x.kids.length c2):=end_all hlt hbx hgr hrd (by rw[hW3];exact Below.refl _ _)
 have hk3:KidsX (FrX w.heap.size W3.heap.size) W3 A2 x:=by
  rw[hW3];exact(hkd.put5 (fun hp=>by have:=hp.1;omega) _ _ _ _ _).to (by omega) (by rw[size_put5,hsW];omega)
 unfold put5 at hW3;rw[←hW3];clear hW hW3 d0 d1 d2 d3 d4;obtain⟨d0,d1,d2,d3,d4,_⟩:=HE.box;exact bodyPost_ret (v:= .tuple #[.agg #[.int .i64 x.kind,.int .i64 x.n,.string ⟨x.name.toArray⟩,.string ⟨x.op.toArray⟩,.slice A2 x.kids.length c2],.int .i64 0]) (by simp[results,Tryz.results178,go_sem,d0,d1,d2,d3,d4]) rfl ⟨HE.grown,⟨_,_,rfl,hk3⟩,HE.rd⟩
theorem inner_open (b:Nat) (w:World) (A:Option Addr) (n c:Nat) (l:List Tok) (k d:Nat) (h:RdC b w A n c l k) (hf:FitL l) (hkb:k≤1000000) (hd:d<64) (x:Ex) (j:Nat) (hj:j≤n) (hs:sg l j≠[41]) (HK:ConRow b A n c l 1 (k+1) (d+1) (.ok x j)):
  Calls Tryz.prog 178 #[.pointer (some ⟨b,0,none⟩),.int .i64 d] w (PostC b w A n c l (.bad j 1)):=by
 have hlt:=h.lt;have H1:Hid (∀ o,RdC b ((w.setCell ⟨b,1,none⟩ (.int .i64 ((k:Int)+1))).alloc o) A n c l (k+1)):=Lib.hid fun o=>(h.placez (k+1) _ (by omega)).box o
 obtain⟨c0,c1,f1,_,_⟩:=h;have K:Hid (∀ w,RdC b w A n c l (k+1)→Calls Tryz.prog 131 #[.pointer (some ⟨b,0,none⟩),.int .i64 1,.int .i64 ((d:Int)+1)] w (PostC b w A n c l (.ok x j))):=Lib.hid HK;obtain⟨S,hS⟩:∃ S:ByteArray,S=⟨(sg l j).toArray⟩:=⟨_,rfl⟩;have KS:Hid (∀ w,RdC b w A n c l j→Calls Tryz.prog 155 #[.pointer (some ⟨b,0,none⟩)] w fun e w'=>e= .returned (.string S)∧Below w.heap.size w w'):=Lib.hid fun w h=>by rw[hS];exact nextsign_any b w A n c l j h hf hj
 obtain⟨s1,s2⟩:=sgB l j S hS [41] false (by simp[hs]);have b1:((d:Int)==64)=false:=by simp;omega
 clear HK hS hs hf hj;go_enter Tryz.func178,Tryz.ntmps178;go_wp2_with (first | (go_at_call 131;go_must ((with_reducible refine(K.out _ (H1.out _)).mono ?_);rintro e w2 ⟨hg2,⟨A2,c2,rfl,hk2⟩,hr2⟩;have HB:=Lib.hid (boxr_of _ hlt hg2);have HR:=Lib.hid hr2;have HKD:=Lib.hid hk2;clear hg2 hr2 hk2)) | (go_at_call 155;go_must ((with_reducible refine(KS.out _ (HR.out.box _)).mono ?_);rintro e w3 ⟨rfl,hb3⟩;have HM:=Lib.hid (midr_of HB.out (by simp) HR.out HKD.out (hb3.mono (by simp)));clear hb3;obtain⟨d0,d1,d2,d3,d4,_⟩:=HM.out.box;obtain⟨e0,e1,e2,e3,e4⟩:=HM.out.box.freed;obtain⟨g0,g1,g2,g3,g4,_⟩:=HM.out.box2;have hr0:=HM.out.rd.c0;have hr1:=HM.out.rd.c1;have hr2:=HM.out.rd.f1;have hl1:=HM.out.lt;have hl2:=HM.out.lt2)));obtain⟨W3,hW3⟩:∃ W3,W3=put5 w3 w.heap.size (.int .i64 0) (.int .i64 0) (.string ⟨#[]⟩) (.string ⟨#[]⟩) (.slice none 0 0):=⟨_,rfl⟩;have HE:EndR b w W3 A n c l j (.int .i64 0) (.int .i64 0) (.string ⟨#[]⟩) (.string ⟨#[]⟩) (.slice none 0 0):=end_all hlt HM.out.box HM.out.grown HM.out.rd (by rw[hW3];exact Below.refl _ _);unfold put5 at hW3;rw[←hW3];clear hW3 d0 d1 d2 d3 d4;obtain⟨d0,d1,d2,d3,d4,_⟩:=HE.box;exact bodyPost_ret (v:= .tuple #[.agg #[.int .i64 0,.int .i64 0,.string ⟨#[]⟩,.string ⟨#[]⟩,.slice none 0 0],.int .i64 1]) (by simp[results,Tryz.results178,go_sem,d0,d1,d2,d3,d4]) rfl ⟨HE.grown,rfl,HE.rd⟩
structure EndQ (b q:Nat) (w W3:World) (A:Option Addr) (n c:Nat) (l:List Tok) (j:Nat) (v0 v1 v2 v3 v4:Value):Prop where
 box:Box5 W3 q v0 v1 v2 v3 v4
 grown:w.grownBy W3 (some b)
 rd:RdC b W3 A n c l j
theorem end_q {b q:Nat} {w W W3:World} {A:Option Addr} {n c:Nat} {l:List Tok} {j:Nat} {u0 u1 u2 u3 u4 v0 v1 v2 v3 v4:Value} (hb:b<q) (hq:w.heap.size≤q) (hx:Box5 W q u0 u1 u2 u3 u4) (hg:w.grownBy W (some b)) (hr:RdC b W A n c l j)
  (h3:Below (put5 W q v0 v1 v2 v3 v4).heap.size (put5 W q v0 v1 v2 v3 v4) W3):EndQ b q w W3 A n c l j v0 v1 v2 v3 v4:=
 ⟨(hx.put _ _ _ _ _).low h3,grown_trans (grown_put5 hg hq _ _ _ _ _) (grown_below h3),(hr.put5 hb _ _ _ _ _).low h3⟩
abbrev objX (x:Ex) (A:Option Addr) (c:Nat):Obj:= .cells #[.int .i64 x.kind,.int .i64 x.n,.string ⟨x.name.toArray⟩,.string ⟨x.op.toArray⟩,.slice A x.kids.length c] 38
structure MidB (b:Nat) (P:Nat→Prop) (w W:World) (A:Option Addr) (n c:Nat) (l:List Tok) (j:Nat) (x:Ex) (A0:Option Addr) (c0:Nat):Prop where
 boxL:Box5 W w.heap.size (.int .i64 x.kind) (.int .i64 x.n) (.string ⟨x.name.toArray⟩) (.string ⟨x.op.toArray⟩) (.slice A0 x.kids.length c0)
 boxQ:Box5 W (w.heap.size+1) (.int .i64 0) (.int .i64 0) (.string ⟨#[]⟩) (.string ⟨#[]⟩) (.slice none 0 0)
 grown:w.grownBy W (some b)
 rd:RdC b W A n c l j
 kids:KidsX P W A0 x
 size:w.heap.size+2≤W.heap.size
theorem MidB.first {b:Nat} {P:Nat→Prop} {w W:World} {A:Option Addr} {n c:Nat} {l:List Tok} {k:Nat} {x:Ex} {A0:Option Addr} {c0:Nat} (hr:RdC b w A n c l k) (hk:KidsX P w A0 x) (hP:∀ q,P q→q<w.heap.size∧q≠b) (hb:Below ((w.alloc (objX x A0 c0)).alloc zeroX).heap.size ((w.alloc (objX x A0 c0)).alloc zeroX) W):MidB b P w W A n c l k x A0 c0:=by
 have hs:(w.alloc (objX x A0 c0)).heap.size=w.heap.size+1:=by simp
 have hs2:((w.alloc (objX x A0 c0)).alloc zeroX).heap.size=w.heap.size+2:=by simp
 have h0:Below w.heap.size w W:=(two_boxesX w _ _).trans (hb.mono (by omega));have h1:=Box5.new (w.alloc (objX x A0 c0)) 38 (.int .i64 0) (.int .i64 0) (.string ⟨#[]⟩) (.string ⟨#[]⟩) (.slice none 0 0);rw[hs] at h1;exact⟨((Box5.new w _ _ _ _ _ _).low (one_boxX _ _)).low hb,h1.low hb,grown_below h0,hr.low h0,hk.over fun q hq=>h0.block q (hP q hq).1,by have:=hb.size;omega⟩
theorem MidB.more {b:Nat} {P:Nat→Prop} {w W W':World} {A:Option Addr} {n c:Nat} {l:List Tok} {k j:Nat} {x:Ex} {A0:Option Addr} {c0:Nat} (h:MidB b P w W A n c l k x A0 c0) (hlt:b<w.heap.size) (hP:∀ q,P q→q<w.heap.size∧q≠b) (hg:W.grownBy W' (some b)) (hr:RdC b W' A n c l j):MidB b P w W' A n c l j x A0 c0:=
 ⟨h.boxL.grown hg (by omega),h.boxQ.grown hg (by omega),grown_trans h.grown hg,hr,h.kids.grownX hg fun q hq=>⟨by have:=(hP q hq).1;have:=h.size;omega,(hP q hq).2⟩,by have:=h.size;have:=hg.size;omega⟩
theorem sg_len {l:List Tok} (hf:FitL l) (k:Nat):(sg l k).length≤100000:=by
 unfold sg
 cases hl:l[k]? with
 | none=>simp
 | some t=>
   have:=(hf.fit t (List.mem_of_getElem? hl)).word;dsimp only
   split
   ·exact this
   ·simp
def PostB (b:Nat) (P:Nat→Prop) (w:World) (A:Option Addr) (n c:Nat) (l:List Tok) (r:Rs) (e:Ending) (w':World):Prop:=w.grownBy w' (some b)∧match r with
 | .ok x j=>(∃ A' c',e= .returned (.tuple #[.agg #[.int .i64 x.kind,.int .i64 x.n,.string ⟨x.name.toArray⟩,.string ⟨x.op.toArray⟩,.slice A' x.kids.length c'],.int .i64 0])∧KidsX (fun q=>P q∨FrX w.heap.size w'.heap.size q) w' A' x)∧RdC b w' A n c l j
 | .bad j er=>e= .returned (.tuple #[.agg #[.int .i64 0,.int .i64 0,.string ⟨#[]⟩,.string ⟨#[]⟩,.slice none 0 0],.int .i64 er])∧RdC b w' A n c l j
theorem behind_deep (b:Nat) (P:Nat→Prop) (w:World) (A:Option Addr) (n c:Nat) (l:List Tok) (k:Nat) (h:RdC b w A n c l k) (hf:FitL l) (hk:k≤n) (x:Ex) (A0:Option Addr) (c0:Nat) (hx:KidsX P w A0 x) (hP:∀ q,P q→q<w.heap.size∧q≠b):
  Calls Tryz.prog 156 #[.pointer (some ⟨b,0,none⟩),.agg #[.int .i64 x.kind,.int .i64 x.n,.string ⟨x.name.toArray⟩,.string ⟨x.op.toArray⟩,.slice A0 x.kids.length c0],.int .i64 64] w (PostB b P w A n c l (.bad k 8)):=by
 have hlt:=h.lt;obtain⟨S,hS⟩:∃ S:ByteArray,S=⟨(sg l k).toArray⟩:=⟨_,rfl⟩;have KS:Hid (∀ w,RdC b w A n c l k→Calls Tryz.prog 155 #[.pointer (some ⟨b,0,none⟩)] w fun e w'=>e= .returned (.string S)∧Below w.heap.size w w'):=Lib.hid fun w h=>by rw[hS];exact nextsign_any b w A n c l k h hf hk
 have HM0:Hid (∀ W,Below ((w.alloc (objX x A0 c0)).alloc zeroX).heap.size ((w.alloc (objX x A0 c0)).alloc zeroX) W→MidB b P w W A n c l k x A0 c0):=Lib.hid fun W hb=>MidB.first h hx hP hb
 have H1:=Lib.hid (HM0.out _ (Below.refl _ _)).rd;clear h hf hk hx hS;go_enter Tryz.func156,Tryz.ntmps156;go_wp2_with (go_at_call 155;go_must ((with_reducible refine(KS.out _ H1.out).mono ?_);rintro e w1 ⟨rfl,hb1⟩;have HM:=Lib.hid (HM0.out _ hb1);clear hb1;obtain⟨d0,d1,d2,d3,d4,_⟩:=HM.out.boxQ;obtain⟨e0,e1,e2,e3,e4⟩:=HM.out.boxQ.freed;have hsz:=HM.out.size));obtain⟨W3,hW3⟩:∃ W3,W3=put5 w1 (w.heap.size+1) (.int .i64 0) (.int .i64 0) (.string ⟨#[]⟩) (.string ⟨#[]⟩) (.slice none 0 0):=⟨_,rfl⟩;have HE:EndQ b (w.heap.size+1) w W3 A n c l k (.int .i64 0) (.int .i64 0) (.string ⟨#[]⟩) (.string ⟨#[]⟩) (.slice none 0 0):=end_q (by omega) (by omega) HM.out.boxQ HM.out.grown HM.out.rd (by rw[hW3];exact Below.refl _ _);unfold put5 at hW3;rw[←hW3];clear hW3 d0 d1 d2 d3 d4;obtain⟨d0,d1,d2,d3,d4,_⟩:=HE.box;exact bodyPost_ret (v:= .tuple #[.agg #[.int .i64 0,.int .i64 0,.string ⟨#[]⟩,.string ⟨#[]⟩,.slice none 0 0],.int .i64 8]) (by simp[results,Tryz.results156,go_sem,d0,d1,d2,d3,d4]) rfl ⟨HE.grown,rfl,HE.rd⟩
theorem size_allocX (w:World) (o:Obj):(w.alloc o).heap.size=w.heap.size+1:=by simp
abbrev objXY (x y:Ex) (A A':Option Addr) (c c':Nat):Obj:= .cells #[.int .i64 x.kind,.int .i64 x.n,.string ⟨x.name.toArray⟩,.string ⟨x.op.toArray⟩,.slice A x.kids.length c,.int .i64 y.kind,.int .i64 y.n,.string ⟨y.name.toArray⟩,.string ⟨y.op.toArray⟩,.slice A' y.kids.length c'] 38
structure EndB (b:Nat) (P:Nat→Prop) (w W3:World) (A:Option Addr) (n c:Nat) (l:List Tok) (j:Nat) (op:Bs) (x y:Ex) (g:Nat):Prop where
 fin:EndQ b (w.heap.size+1) w W3 A n c l j (.int .i64 4) (.int .i64 0) (.string ⟨#[]⟩) (.string ⟨op.toArray⟩) (.slice (some ⟨g,0,none⟩) 2 2)
 kids:KidsX (fun q=>P q∨FrX w.heap.size W3.heap.size q) W3 (some ⟨g,0,none⟩) (exBin op x y)
theorem endb_last {b:Nat} {P:Nat→Prop} {w W2 w5 W3:World} {A:Option Addr} {n c:Nat} {l:List Tok} {j:Nat} {op:Bs} {x y:Ex} {A0 A2:Option Addr} {c0 c2 s2:Nat} (hlt:b<w.heap.size) (hP:∀ q,P q→q<w.heap.size∧q≠b) (h:MidB b P w W2 A n c l j x A0 c0) (hy:KidsX (FrX (w.heap.size+2) s2) W2 A2 y)
  (hs:W2.heap.size=s2+1) (h5:Below W2.heap.size W2 w5)
  (h3:W3=(put5 w5 (w.heap.size+1) (.int .i64 4) (.int .i64 0) (.string ⟨#[]⟩) (.string ⟨op.toArray⟩) (.slice (some ⟨w5.heap.size,0,none⟩) 2 2)).alloc (objXY x y A0 A2 c0 c2)):EndB b P w W3 A n c l j op x y w5.heap.size:=by
 have hm:=h.more hlt hP (grown_below h5) (h.rd.low h5);have hsz:=h5.size;have hsm:=h.size;refine⟨end_q (by omega) (by omega) hm.boxQ hm.grown hm.rd (by rw[h3];exact one_boxX _ _),?_⟩
 have hPP:∀ q,(P q∨FrX (w.heap.size+2) s2 q)→q<w5.heap.size∧q≠w.heap.size+1:=fun q hq=>by
  rcases hq with hq | hq
  ·have:=(hP q hq).1;omega
  ·have:=hq.1;have:=hq.2;omega
 have k1:KidsX (fun q=>P q∨FrX (w.heap.size+2) s2 q) w5 A0 x:=hm.kids.wide fun _ hq=> .inl hq
 have k2:KidsX (fun q=>P q∨FrX (w.heap.size+2) s2 q) w5 A2 y:=(hy.over fun q hq=>h5.block q (by have:=hq.2;omega)).wide fun _ hq=> .inr hq
 have k3:=kid_two (c:=c0) (c':=c2) (k1.put5 (c:=w.heap.size+1) (fun hq=>(hPP _ hq).2 rfl) (.int .i64 4) (.int .i64 0) (.string ⟨#[]⟩) (.string ⟨op.toArray⟩) (.slice (some ⟨w5.heap.size,0,none⟩) 2 2)) (k2.put5 (c:=w.heap.size+1) (fun hq=>(hPP _ hq).2 rfl) _ _ _ _ _) (fun q hq=>by rw[size_put5];exact(hPP q hq).1) 4 0 [] op;rw[size_put5,←h3] at k3;have hs3:W3.heap.size=w5.heap.size+1:=by rw[h3];simp
 exact k3.wide fun q hq=>by
  rw[hs3]
  rcases hq with (hq | hq) | hq
  ·exact .inl hq
  ·exact .inr ⟨by have:=hq.1;omega,by have:=hq.2;omega⟩
  ·exact .inr ⟨by omega,by omega⟩
theorem endb_first {b:Nat} {P:Nat→Prop} {w W2 w5 W3:World} {A:Option Addr} {n c:Nat} {l:List Tok} {j:Nat} {op:Bs} {x y:Ex} {A0 A2:Option Addr} {c0 c2 s2:Nat} (hlt:b<w.heap.size) (hP:∀ q,P q→q<w.heap.size∧q≠b) (h:MidB b P w W2 A n c l j x A0 c0) (hy:KidsX (FrX (w.heap.size+2) s2) W2 A2 y)
  (hs:W2.heap.size=s2+1) (h5:Below (W2.drew.alloc (objXY x y A0 A2 c0 c2)).heap.size (W2.drew.alloc (objXY x y A0 A2 c0 c2)) w5)
  (h3:W3=put5 w5 (w.heap.size+1) (.int .i64 4) (.int .i64 0) (.string ⟨#[]⟩) (.string ⟨op.toArray⟩) (.slice (some ⟨s2+1,0,none⟩) 2 2)):EndB b P w W3 A n c l j op x y (s2+1):=by
 have hrs:(W2.drew.alloc (objXY x y A0 A2 c0 c2)).heap.size=s2+2:=by rw[size_allocX];show W2.heap.size+1=_;rw[hs]
 have h0:Below W2.heap.size W2 w5:=((Below.refl W2.heap.size W2).drew.alloc (Nat.le_refl W2.heap.size) _).trans (h5.mono (by omega));have hm:=h.more hlt hP (grown_below h0) (h.rd.low h0);have hsz:=h5.size;have hsm:=h.size;refine⟨end_q (by omega) (by omega) hm.boxQ hm.grown hm.rd (by rw[h3];exact Below.refl _ _),?_⟩;have k1:KidsX (fun q=>P q∨FrX (w.heap.size+2) s2 q) W2.drew A0 x:=(h.kids.over (w':=W2.drew) (fun _ _=>rfl)).wide fun _ hq=>Or.inl hq
 have k2:KidsX (fun q=>P q∨FrX (w.heap.size+2) s2 q) W2.drew A2 y:=(hy.over (w':=W2.drew) (fun _ _=>rfl)).wide fun _ hq=>Or.inr hq
 have hds:W2.drew.heap.size=s2+1:=hs
 have hPP:∀ q,(P q∨FrX (w.heap.size+2) s2 q)→q<W2.drew.heap.size:=fun q hq=>by
  rcases hq with hq | hq
  ·have:=(hP q hq).1;omega
  ·have:=hq.2;omega
 have k3:=kid_two (c:=c0) (c':=c2) k1 k2 hPP 4 0 [] op;rw[hds] at k3
 have k4:=(k3.over (w':=w5) fun q hq=>h5.block q (by
  rw[hrs]
  rcases hq with hq | hq
  ·have:=hPP q hq;omega
  ·omega)).put5 (c:=w.heap.size+1) (fun hq=>by
   rcases hq with (hq | hq) | hq
   ·have:=(hP _ hq).1;omega
   ·have:=hq.1;omega
   ·omega) (.int .i64 4) (.int .i64 0) (.string ⟨#[]⟩) (.string ⟨op.toArray⟩) (.slice (some ⟨s2+1,0,none⟩) 2 2)
 have hs3:W3.heap.size=w5.heap.size:=by rw[h3,size_put5]
 rw[←h3] at k4
 exact k4.wide fun q hq=>by
  rw[hs3]
  rcases hq with (hq | hq) | hq
  ·exact .inl hq
  ·exact .inr ⟨by have:=hq.1;omega,by have:=hq.2;omega⟩
  ·exact .inr ⟨by omega,by omega⟩
theorem behind_bad (b:Nat) (P:Nat→Prop) (w:World) (A:Option Addr) (n c:Nat) (l:List Tok) (k d:Nat) (h:RdC b w A n c l k) (hf:FitL l) (hk:k≤n) (hd:d<64) (x:Ex) (A0:Option Addr) (c0:Nat) (hx:KidsX P w A0 x) (hP:∀ q,P q→q<w.heap.size∧q≠b) (j er:Nat) (he:er≠0) (HK:ConRow b A n c l (strong (sg l k)+1) (k+1) (d+1) (.bad j er)):
  Calls Tryz.prog 156 #[.pointer (some ⟨b,0,none⟩),.agg #[.int .i64 x.kind,.int .i64 x.n,.string ⟨x.name.toArray⟩,.string ⟨x.op.toArray⟩,.slice A0 x.kids.length c0],.int .i64 d] w (PostB b P w A n c l (.bad j er)):=by
 have hlt:=h.lt;have hkb:k≤1000000:=by have:=h.row.1;have:=hf.len;omega
 obtain⟨S,hS⟩:∃ S:ByteArray,S=⟨(sg l k).toArray⟩:=⟨_,rfl⟩;have KS:Hid (∀ w,RdC b w A n c l k→Calls Tryz.prog 155 #[.pointer (some ⟨b,0,none⟩)] w fun e w'=>e= .returned (.string S)∧Below w.heap.size w w'):=Lib.hid fun w h=>by rw[hS];exact nextsign_any b w A n c l k h hf hk
 have eS:S.data.toList=sg l k:=by rw[hS]
 have KT:Hid (∀ w,Calls Tryz.prog 154 #[.string S] w fun e w'=>e= .returned (.int .i64 (strong (sg l k)))∧w=w'):=Lib.hid fun w=>by rw[←eS];exact cstrong_any S w
 have hmx:=strong_le (sg l k);have HM0:Hid (∀ W,Below ((w.alloc (objX x A0 c0)).alloc zeroX).heap.size ((w.alloc (objX x A0 c0)).alloc zeroX) W→MidB b P w W A n c l k x A0 c0):=Lib.hid fun W hb=>MidB.first h hx hP hb
 have H1:=Lib.hid (HM0.out _ (Below.refl _ _)).rd;have HPP:=Lib.hid hP;have b1:((d:Int)==64)=false:=by simp;omega
 have K:Hid (∀ w,RdC b w A n c l (k+1)→Calls Tryz.prog 131 #[.pointer (some ⟨b,0,none⟩),.int .i64 (((strong (sg l k):Nat):Int)+1),.int .i64 ((d:Int)+1)] w (PostC b w A n c l (.bad j er))):=Lib.hid HK;have b2:((er:Int) != 0)=true:=by simp;omega
 have b3:(er != 0)=true:=by simp;omega
 generalize strong (sg l k)=m at KT K hmx;clear HK he h hf hk hx hS eS hP;go_enter Tryz.func156,Tryz.ntmps156;go_wp2_with (first | (go_at_call 155;go_must ((with_reducible refine(KS.out _ H1.out).mono ?_);rintro e w1 ⟨rfl,hb1⟩;have HM:=Lib.hid (HM0.out _ hb1);clear hb1;have HM1:=Lib.hid (HM.out.more hlt HPP.out (grown_set b 1 _ (.int .i64 ((k:Int)+1))) (HM.out.rd.placez (k+1) _ (by omega)));have hr0:=HM.out.rd.c0;have hr1:=HM.out.rd.c1;have hr2:=HM.out.rd.f1)) | (go_at_call 154;go_must ((with_reducible refine(KT.out _).mono ?_);rintro e w' ⟨rfl,rfl⟩)) | (go_at_call 131;go_must ((with_reducible refine(K.out _ HM1.out.rd).mono ?_);rintro e w2 ⟨hg2,rfl,hr2⟩;have HM2:=Lib.hid (HM1.out.more hlt HPP.out hg2 hr2);clear hg2;obtain⟨d0,d1,d2,d3,d4,_⟩:=HM2.out.boxQ;obtain⟨e0,e1,e2,e3,e4⟩:=HM2.out.boxQ.freed;have hsz:w.heap.size+1<w2.heap.size:=HM2.out.size)));obtain⟨W3,hW3⟩:∃ W3,W3=(put5 w2 (w.heap.size+1) (.int .i64 0) (.int .i64 0) (.string ⟨#[]⟩) (.string ⟨#[]⟩) (.slice none 0 0)).alloc zeroX:=⟨_,rfl⟩;have HE:EndQ b (w.heap.size+1) w W3 A n c l j (.int .i64 0) (.int .i64 0) (.string ⟨#[]⟩) (.string ⟨#[]⟩) (.slice none 0 0):=end_q (by omega) (by omega) HM2.out.boxQ HM2.out.grown HM2.out.rd (by rw[hW3];exact one_boxX _ _);rw[←hW3];clear hW3 d0 d1 d2 d3 d4;obtain⟨d0,d1,d2,d3,d4,_⟩:=HE.box;exact bodyPost_ret (v:= .tuple #[.agg #[.int .i64 0,.int .i64 0,.string ⟨#[]⟩,.string ⟨#[]⟩,.slice none 0 0],.int .i64 er]) (by simp[results,Tryz.results156,go_sem,d0,d1,d2,d3,d4]) rfl ⟨HE.grown,rfl,HE.rd⟩
theorem behind_ok (b:Nat) (P:Nat→Prop) (w:World) (A:Option Addr) (n c:Nat) (l:List Tok) (k d:Nat) (h:RdC b w A n c l k) (hf:FitL l) (hk:k≤n) (hd:d<64) (x:Ex) (A0:Option Addr) (c0:Nat) (hx:KidsX P w A0 x) (hP:∀ q,P q→q<w.heap.size∧q≠b) (y:Ex) (j:Nat) (HK:ConRow b A n c l (strong (sg l k)+1) (k+1) (d+1) (.ok y j)):
  Calls Tryz.prog 156 #[.pointer (some ⟨b,0,none⟩),.agg #[.int .i64 x.kind,.int .i64 x.n,.string ⟨x.name.toArray⟩,.string ⟨x.op.toArray⟩,.slice A0 x.kids.length c0],.int .i64 d] w (PostB b P w A n c l (.ok (exBin (sg l k) x y) j)):=by
 have hlt:=h.lt;have hkb:k≤1000000:=by have:=h.row.1;have:=hf.len;omega
 obtain⟨S,hS⟩:∃ S:ByteArray,S=⟨(sg l k).toArray⟩:=⟨_,rfl⟩;have KS:Hid (∀ w,RdC b w A n c l k→Calls Tryz.prog 155 #[.pointer (some ⟨b,0,none⟩)] w fun e w'=>e= .returned (.string S)∧Below w.heap.size w w'):=Lib.hid fun w h=>by rw[hS];exact nextsign_any b w A n c l k h hf hk
 have eS:S.data.toList=sg l k:=by rw[hS]
 have KT:Hid (∀ w,Calls Tryz.prog 154 #[.string S] w fun e w'=>e= .returned (.int .i64 (strong (sg l k)))∧w=w'):=Lib.hid fun w=>by rw[←eS];exact cstrong_any S w
 have hmx:=strong_le (sg l k);have HM0:Hid (∀ W,Below ((w.alloc (objX x A0 c0)).alloc zeroX).heap.size ((w.alloc (objX x A0 c0)).alloc zeroX) W→MidB b P w W A n c l k x A0 c0):=Lib.hid fun W hb=>MidB.first h hx hP hb
 have H1:=Lib.hid (HM0.out _ (Below.refl _ _)).rd;have HPP:=Lib.hid hP;have b1:((d:Int)==64)=false:=by simp;omega
 have K:Hid (∀ w,RdC b w A n c l (k+1)→Calls Tryz.prog 131 #[.pointer (some ⟨b,0,none⟩),.int .i64 (((strong (sg l k):Nat):Int)+1),.int .i64 ((d:Int)+1)] w (PostC b w A n c l (.ok y j))):=Lib.hid HK
 have hSz:S.size≤281474976710656:=by
  rw[←len_data,eS];have:=sg_len hf k;omega
 have KC:=Lib.hid fun w=>tclone_any S hSz w
 generalize strong (sg l k)=m at KT K hmx;have HSS:=Lib.hid hS;clear HK h hf hk hx eS hP hSz hS;go_enter Tryz.func156,Tryz.ntmps156;go_wp2_with (first | (go_at_call 155;go_must ((with_reducible refine(KS.out _ H1.out).mono ?_);rintro e w1 ⟨rfl,hb1⟩;have HM:=Lib.hid (HM0.out _ hb1);clear hb1;have HM1:=Lib.hid (HM.out.more hlt HPP.out (grown_set b 1 _ (.int .i64 ((k:Int)+1))) (HM.out.rd.placez (k+1) _ (by omega)));have hr0:=HM.out.rd.c0;have hr1:=HM.out.rd.c1;have hr2:=HM.out.rd.f1)) | (go_at_call 154;go_must ((with_reducible refine(KT.out _).mono ?_);rintro e w' ⟨rfl,rfl⟩)) | (go_at_call 131;go_must ((with_reducible refine(K.out _ HM1.out.rd).mono ?_);rintro e w2 ⟨hg2,⟨A2,c2,rfl,hk2⟩,hr2⟩;have HM2:=Lib.hid (HM1.out.more hlt HPP.out hg2 hr2);have HKD:=Lib.hid hk2;have HS1:=Lib.hid HM1.out.size;clear hg2 hr2 hk2;have hsz:w.heap.size+1<w2.heap.size:=HM2.out.size;have hsz0:w.heap.size<w2.heap.size:=(by omega))));obtain⟨W2,hW2⟩:∃ W2,W2=w2.alloc (objX y A2 c2):=⟨_,rfl⟩;have HMY:=Lib.hid (HM2.out.more (W':=W2) hlt HPP.out (by rw[hW2];exact grown_below (one_boxX _ _)) (by rw[hW2];exact HM2.out.rd.box _));have HBR:=Lib.hid (show Box5 W2 w2.heap.size (.int .i64 y.kind) (.int .i64 y.n) (.string ⟨y.name.toArray⟩) (.string ⟨y.op.toArray⟩) (.slice A2 y.kids.length c2) by rw[hW2];exact Box5.new w2 _ _ _ _ _ _);have hs2:W2.heap.size=w2.heap.size+1:=by rw[hW2];simp
 have HKY:=Lib.hid (show KidsX (FrX (w.heap.size+2) w2.heap.size) W2 A2 y by
  rw[hW2];exact(HKD.out.to (by have:=HS1.out;simp[World.setCell] at this ⊢;omega) (Nat.le_refl _)).allocX (fun q hq=>hq.2) _)
 rw[←hW2];clear hW2
 have HL:Hid (∀ W',Below W2.heap.size W2 W'→(W'.cell? ⟨w.heap.size,0,none⟩=some (.int .i64 x.kind)∧W'.cell? ⟨w.heap.size,1,none⟩=some (.int .i64 x.n)∧W'.cell? ⟨w.heap.size,2,none⟩=some (.string ⟨x.name.toArray⟩)∧W'.cell? ⟨w.heap.size,3,none⟩=some (.string ⟨x.op.toArray⟩)∧W'.cell? ⟨w.heap.size,4,none⟩=some (.slice A0 x.kids.length c0))∧
   W'.cell? ⟨w2.heap.size,0,none⟩=some (.int .i64 y.kind)∧W'.cell? ⟨w2.heap.size,1,none⟩=some (.int .i64 y.n)∧W'.cell? ⟨w2.heap.size,2,none⟩=some (.string ⟨y.name.toArray⟩)∧W'.cell? ⟨w2.heap.size,3,none⟩=some (.string ⟨y.op.toArray⟩)∧W'.cell? ⟨w2.heap.size,4,none⟩=some (.slice A2 y.kids.length c2)):=Lib.hid fun W' hb=>by
  have h1:=HMY.out.boxL.low hb;have h2:=HBR.out.low hb;exact⟨⟨h1.c0,h1.c1,h1.c2,h1.c3,h1.c4⟩,h2.c0,h2.c1,h2.c2,h2.c3,h2.c4⟩
 obtain⟨⟨l0,l1,l2,l3,l4⟩,r0,r1,r2,r3,r4⟩:=HL.out _ (Below.refl _ _);have n1:w.heap.size+1≠w.heap.size:=by omega
 have n2:w.heap.size+1≠w2.heap.size:=by omega
 go_region_held3 (fun W'=>(W'.cell? ⟨w.heap.size,0,none⟩=some (.int .i64 x.kind)∧W'.cell? ⟨w.heap.size,1,none⟩=some (.int .i64 x.n)∧W'.cell? ⟨w.heap.size,2,none⟩=some (.string ⟨x.name.toArray⟩)∧W'.cell? ⟨w.heap.size,3,none⟩=some (.string ⟨x.op.toArray⟩)∧W'.cell? ⟨w.heap.size,4,none⟩=some (.slice A0 x.kids.length c0))∧
   W'.cell? ⟨w2.heap.size,0,none⟩=some (.int .i64 y.kind)∧W'.cell? ⟨w2.heap.size,1,none⟩=some (.int .i64 y.n)∧W'.cell? ⟨w2.heap.size,2,none⟩=some (.string ⟨y.name.toArray⟩)∧W'.cell? ⟨w2.heap.size,3,none⟩=some (.string ⟨y.op.toArray⟩)∧W'.cell? ⟨w2.heap.size,4,none⟩=some (.slice A2 y.kids.length c2))
  (first | (with_reducible exact⟨⟨l0,l1,l2,l3,l4⟩,r0,r1,r2,r3,r4⟩) | (simp only[World.cell?_drew,World.cell?_setCell_far,World.cell?_alloc_some,n1,n2,l0,l1,l2,l3,l4,r0,r1,r2,r3,r4,ne_eq,not_false_eq_true,Option.isSome_some,and_self]))
  (first | (go_at_call 89;((with_reducible refine(KC.out _).mono ?_));rintro e w5 ⟨rfl,hb5⟩;have HB5:Hid (Below W2.heap.size W2 w5):=(by first | exact Lib.hid (((Below.refl _ _).drew).trans hb5) | exact Lib.hid ((((Below.refl _ _).drew).alloc (Nat.le_refl _) _).trans (hb5.mono (by simp))));obtain⟨⟨l0,l1,l2,l3,l4⟩,r0,r1,r2,r3,r4⟩:=HL.out _ HB5.out;obtain⟨d0,d1,d2,d3,d4,_⟩:=HMY.out.boxQ.low HB5.out;obtain⟨e0,e1,e2,e3,e4⟩:=(HMY.out.boxQ.low HB5.out).freed;have hq5:w.heap.size+1<w5.heap.size:=(by have:=HB5.out.size;omega)))
 ·obtain⟨W3,hW3⟩:∃ W3,W3=(put5 w5 (w.heap.size+1) (.int .i64 4) (.int .i64 0) (.string ⟨#[]⟩) (.string S) (.slice (some ⟨w5.heap.size,0,none⟩) 2 2)).alloc (objXY x y A0 A2 c0 c2):=⟨_,rfl⟩
  have HE:=Lib.hid (endb_last (op:=sg l k) (W3:=W3) (c2:=c2) hlt HPP.out HMY.out HKY.out hs2 HB5.out (by rw[hW3,HSS.out]));rw[←hW3];clear hW3 d0 d1 d2 d3 d4;go_wp2;obtain⟨d0,d1,d2,d3,d4,_⟩:=HE.out.fin.box;rw[←HSS.out] at d3;exact bodyPost_ret (v:= .tuple #[.agg #[.int .i64 4,.int .i64 0,.string ⟨#[]⟩,.string S,.slice (some ⟨w5.heap.size,0,none⟩) 2 2],.int .i64 0]) (by simp[results,Tryz.results156,go_sem,d0,d1,d2,d3,d4]) rfl ⟨HE.out.fin.grown,⟨⟨_,2,by rw[HSS.out];rfl,HE.out.kids⟩,HE.out.fin.rd⟩⟩
 ·obtain⟨W3,hW3⟩:∃ W3,W3=put5 w5 (w.heap.size+1) (.int .i64 4) (.int .i64 0) (.string ⟨#[]⟩) (.string S) (.slice (some ⟨w2.heap.size+1,0,none⟩) 2 2):=⟨_,rfl⟩
  have HE:=Lib.hid (endb_first (op:=sg l k) (W3:=W3) hlt HPP.out HMY.out HKY.out hs2 hb5 (by rw[hW3,HSS.out]));unfold put5 at hW3;rw[←hW3];clear hW3 d0 d1 d2 d3 d4;go_wp2;obtain⟨d0,d1,d2,d3,d4,_⟩:=HE.out.fin.box;rw[←HSS.out] at d3;exact bodyPost_ret (v:= .tuple #[.agg #[.int .i64 4,.int .i64 0,.string ⟨#[]⟩,.string S,.slice (some ⟨w2.heap.size+1,0,none⟩) 2 2],.int .i64 0]) (by simp[results,Tryz.results156,go_sem,d0,d1,d2,d3,d4]) rfl ⟨HE.out.fin.grown,⟨⟨_,2,by rw[HSS.out];rfl,HE.out.kids⟩,HE.out.fin.rd⟩⟩
end Go.Proofs.YtngfihoempcplaaGreatDoor
