import Derived.Test.YtfgcdppebeojbaaGreatDoorTkQ
import Derived.Deep.QuietTactic
import Derived.Deep.Slices
import Derived.RegionTactic
import Derived.BigQuiet
import Derived.Tactics2
import Derived.StillTactics
import Derived.Test.YtfgcdppebeojbaaGreatDoorPlainC
import Derived.Lib.Bytealg
import Derived.Deep.DeepMust
import Derived.Deep.RegionHeld3
namespace Go.Proofs.YtfgcdppebeojbaaGreatDoor
open Go Go.RowKit
set_option maxRecDepth 100000
set_option maxHeartbeats 8000000
inductive Ex where
 | mk (kind n:Int) (name op:Bs) (kids:List Ex):Ex
theorem Ex.ind {P:Ex→Prop} (h:∀ k n nm op ks,(∀ r∈ks,P r)→P (.mk k n nm op ks)):∀ r,P r:=by
 intro r;refine Ex.rec (motive_1:=P) (motive_2:=fun l=>∀ r∈l,P r) ?_ ?_ ?_ r
 ·intro k n nm op ks ih;exact h k n nm op ks ih
 ·intro r hr;cases hr
 ·intro a l ha hl r hr
  rcases List.mem_cons.1 hr with rfl | hr
  ·exact ha
  ·exact hl r hr
def Ex.kind:Ex→Int | .mk k _ _ _ _=>k
def Ex.n:Ex→Int | .mk _ n _ _ _=>n
def Ex.name:Ex→Bs | .mk _ _ nm _ _=>nm
def Ex.op:Ex→Bs | .mk _ _ _ op _=>op
def Ex.kids:Ex→List Ex | .mk _ _ _ _ ks=>ks
def exNone:Ex:= .mk 0 0 [] [] []
def exNum (n:Int):Ex:= .mk 0 n [] [] []
def exVar (w:Bs):Ex:= .mk 1 0 w [] []
def exNeg (x:Ex):Ex:= .mk 2 0 [] [] [x]
def exNot (x:Ex):Ex:= .mk 3 0 [] [] [x]
def exBin (op:Bs) (x y:Ex):Ex:= .mk 4 0 [] op [x,y]
def strong (op:Bs):Nat:=
 if op=[124,124] then 1 else if op=[38,38] then 2 else if op=[61,61]∨op=[33,61] then 3
 else if op=[60]∨op=[62]∨op=[60,61]∨op=[62,61] then 4 else if op=[43]∨op=[45] then 5
 else if op=[42]∨op=[47]∨op=[37] then 6 else 0
theorem strong_le (op:Bs):strong op≤6:=by
 unfold strong
 repeat' split
 all_goals omega
theorem strong_nil:strong []=0:=by decide
def sg (l:List Tok) (i:Nat):Bs:=match l[i]? with
 | some t=>if t.kind=4 then t.word else []
 | none=>[]
inductive Rs where
 | ok (x:Ex) (at_:Nat):Rs
 | bad (at_:Nat) (e:Nat):Rs
inductive Md where
 | one:Md
 | some (least:Nat):Md
 | loop (least:Nat) (x:Ex):Md
def pre3 (w:Bs):Prop:=w=[45]∨w=[33]∨w=[40]
inductive RdE (l:List Tok):Md→Nat→Nat→Rs→Prop
 | deep {i d}:pre3 (sg l i)→64≤d→RdE l .one i d (.bad i 8)
 | par {i d x j}:sg l i=[40]→d<64→RdE l (.some 1) (i+1) (d+1) (.ok x j)→sg l j=[41]→RdE l .one i d (.ok x (j+1))
 | parOpen {i d x j}:sg l i=[40]→d<64→RdE l (.some 1) (i+1) (d+1) (.ok x j)→sg l j≠[41]→RdE l .one i d (.bad j 1)
 | parBad {i d j e}:sg l i=[40]→d<64→RdE l (.some 1) (i+1) (d+1) (.bad j e)→RdE l .one i d (.bad j e)
 | neg {i d x j}:sg l i=[45]→d<64→RdE l .one (i+1) (d+1) (.ok x j)→RdE l .one i d (.ok (exNeg x) j)
 | not {i d x j}:sg l i=[33]→d<64→RdE l .one (i+1) (d+1) (.ok x j)→RdE l .one i d (.ok (exNot x) j)
 | unBad {i d j e}:sg l i=[45]∨sg l i=[33]→d<64→RdE l .one (i+1) (d+1) (.bad j e)→RdE l .one i d (.bad j e)
 | num {i d t}:l[i]?=some t→t.kind=2→RdE l .one i d (.ok (exNum t.n) (i+1))
 | var {i d t}:l[i]?=some t→t.kind=6→RdE l .one i d (.ok (exVar t.word) (i+1))
 | none {i d}:¬ pre3 (sg l i)→(∀ t,l[i]?=some t→t.kind≠2∧t.kind≠6)→RdE l .one i d (.bad i 1)
 | some {m i d x j r}:RdE l .one i d (.ok x j)→RdE l (.loop m x) j d r→RdE l (.some m) i d r
 | someBad {m i d j e}:RdE l .one i d (.bad j e)→RdE l (.some m) i d (.bad j e)
 | stop {m x i d}:strong (sg l i)<m→RdE l (.loop m x) i d (.ok x i)
 | opDeep {m x i d}:m≤strong (sg l i)→64≤d→RdE l (.loop m x) i d (.bad i 8)
 | op {m x i d y k r}:m≤strong (sg l i)→d<64→RdE l (.some (strong (sg l i)+1)) (i+1) (d+1) (.ok y k)→RdE l (.loop m (exBin (sg l i) x y)) k d r→RdE l (.loop m x) i d r
 | opBad {m x i d j e}:m≤strong (sg l i)→d<64→RdE l (.some (strong (sg l i)+1)) (i+1) (d+1) (.bad j e)→RdE l (.loop m x) i d (.bad j e)
theorem sg_kind {l:List Tok} {i:Nat} {t:Tok} (h:l[i]?=some t) (hk:t.kind≠4):sg l i=[]:=by unfold sg;rw[h];exact if_neg hk
theorem sg_at {l:List Tok} {i:Nat} (h:sg l i≠[]):∃ t,l[i]?=some t∧t.kind=4∧sg l i=t.word:=by
 unfold sg at h ⊢
 cases ht:l[i]? with
 | none=>rw[ht] at h;exact absurd rfl h
 | some t=>
   rw[ht] at h;by_cases hk:t.kind=4
   ·exact⟨t,rfl,hk,if_pos hk⟩
   ·exact absurd (if_neg hk) h
theorem sg_lt {l:List Tok} {i:Nat} (h:sg l i≠[]):i<l.length:=by
 obtain⟨t,ht,_⟩:=sg_at h;exact(List.getElem?_eq_some_iff.1 ht).1
theorem sg_past {l:List Tok} {i:Nat} (h:¬ i<l.length):sg l i=[]:=by unfold sg;rw[List.getElem?_eq_none (by omega)]
theorem strong_sg_lt {l:List Tok} {i m:Nat} (hm:1≤m) (h:m≤strong (sg l i)):i<l.length:=sg_lt fun e=>by rw[e,strong_nil] at h;omega
theorem RdE.det {l:List Tok} {m:Md} {i d:Nat} {r:Rs} (h:RdE l m i d r):∀ {r'},RdE l m i d r'→r=r':=by
 have n40:([40]:Bs)≠[45]:=by decide
 have n33:([40]:Bs)≠[33]:=by decide
 have n45:([45]:Bs)≠[33]:=by decide
 induction h with
 | deep h1 h2=>
   intro r' h'
   cases h' with
   | deep=>rfl
   | par=>omega
   | parOpen=>omega
   | parBad=>omega
   | neg=>omega
   | not=>omega
   | unBad=>omega
   | num h3 h4=>rw[sg_kind h3 (by omega)] at h1;simp[pre3] at h1
   | var h3 h4=>rw[sg_kind h3 (by omega)] at h1;simp[pre3] at h1
   | none h3=>exact absurd h1 h3
 | par h1 h2 h3 h4 ih=>
   intro r' h'
   cases h' with
   | deep=>omega
   | par _ _ k3=>cases ih k3;rfl
   | parOpen _ _ k3 k4=>cases ih k3;exact absurd h4 k4
   | parBad _ _ k3=>cases ih k3
   | neg k1=>rw[h1] at k1;exact absurd k1 n40
   | not k1=>rw[h1] at k1;exact absurd k1 n33
   | unBad k1=>rw[h1] at k1;rcases k1 with k1 | k1 <;> simp at k1
   | num k3 k4=>rw[sg_kind k3 (by omega)] at h1;cases h1
   | var k3 k4=>rw[sg_kind k3 (by omega)] at h1;cases h1
   | none k3=>exact absurd (.inr (.inr h1)) k3
 | parOpen h1 h2 h3 h4 ih=>
   intro r' h'
   cases h' with
   | deep=>omega
   | par _ _ k3 k4=>cases ih k3;exact absurd k4 h4
   | parOpen _ _ k3 k4=>cases ih k3;rfl
   | parBad _ _ k3=>cases ih k3
   | neg k1=>rw[h1] at k1;exact absurd k1 n40
   | not k1=>rw[h1] at k1;exact absurd k1 n33
   | unBad k1=>rw[h1] at k1;rcases k1 with k1 | k1 <;> simp at k1
   | num k3 k4=>rw[sg_kind k3 (by omega)] at h1;cases h1
   | var k3 k4=>rw[sg_kind k3 (by omega)] at h1;cases h1
   | none k3=>exact absurd (.inr (.inr h1)) k3
 | parBad h1 h2 h3 ih=>
   intro r' h'
   cases h' with
   | deep=>omega
   | par _ _ k3 k4=>cases ih k3
   | parOpen _ _ k3 k4=>cases ih k3
   | parBad _ _ k3=>cases ih k3;rfl
   | neg k1=>rw[h1] at k1;exact absurd k1 n40
   | not k1=>rw[h1] at k1;exact absurd k1 n33
   | unBad k1=>rw[h1] at k1;rcases k1 with k1 | k1 <;> simp at k1
   | num k3 k4=>rw[sg_kind k3 (by omega)] at h1;cases h1
   | var k3 k4=>rw[sg_kind k3 (by omega)] at h1;cases h1
   | none k3=>exact absurd (.inr (.inr h1)) k3
 | neg h1 h2 h3 ih=>
   intro r' h'
   cases h' with
   | deep=>omega
   | par k1=>rw[h1] at k1;exact absurd k1.symm n40
   | parOpen k1=>rw[h1] at k1;exact absurd k1.symm n40
   | parBad k1=>rw[h1] at k1;exact absurd k1.symm n40
   | neg _ _ k3=>cases ih k3;rfl
   | not k1=>rw[h1] at k1;exact absurd k1 n45
   | unBad _ _ k3=>cases ih k3
   | num k3 k4=>rw[sg_kind k3 (by omega)] at h1;cases h1
   | var k3 k4=>rw[sg_kind k3 (by omega)] at h1;cases h1
   | none k3=>exact absurd (.inl h1) k3
 | not h1 h2 h3 ih=>
   intro r' h'
   cases h' with
   | deep=>omega
   | par k1=>rw[h1] at k1;exact absurd k1.symm n33
   | parOpen k1=>rw[h1] at k1;exact absurd k1.symm n33
   | parBad k1=>rw[h1] at k1;exact absurd k1.symm n33
   | neg k1=>rw[h1] at k1;exact absurd k1.symm n45
   | not _ _ k3=>cases ih k3;rfl
   | unBad _ _ k3=>cases ih k3
   | num k3 k4=>rw[sg_kind k3 (by omega)] at h1;cases h1
   | var k3 k4=>rw[sg_kind k3 (by omega)] at h1;cases h1
   | none k3=>exact absurd (.inr (.inl h1)) k3
 | unBad h1 h2 h3 ih=>
   intro r' h'
   cases h' with
   | deep=>omega
   | par k1=>rw[k1] at h1;rcases h1 with h1 | h1 <;> simp at h1
   | parOpen k1=>rw[k1] at h1;rcases h1 with h1 | h1 <;> simp at h1
   | parBad k1=>rw[k1] at h1;rcases h1 with h1 | h1 <;> simp at h1
   | neg _ _ k3=>cases ih k3
   | not _ _ k3=>cases ih k3
   | unBad _ _ k3=>cases ih k3;rfl
   | num k3 k4=>rw[sg_kind k3 (by omega)] at h1;rcases h1 with h1 | h1 <;> cases h1
   | var k3 k4=>rw[sg_kind k3 (by omega)] at h1;rcases h1 with h1 | h1 <;> cases h1
   | none k3=>exact absurd (by rcases h1 with h1 | h1;exact .inl h1;exact .inr (.inl h1)) k3
 | num h1 h2=>
   intro r' h';have h0:=sg_kind h1 (by omega)
   cases h' with
   | deep k1=>rw[h0] at k1;simp[pre3] at k1
   | par k1=>rw[h0] at k1;cases k1
   | parOpen k1=>rw[h0] at k1;cases k1
   | parBad k1=>rw[h0] at k1;cases k1
   | neg k1=>rw[h0] at k1;cases k1
   | not k1=>rw[h0] at k1;cases k1
   | unBad k1=>rw[h0] at k1;rcases k1 with k1 | k1 <;> cases k1
   | num k1 k2=>rw[h1] at k1;cases k1;rfl
   | var k1 k2=>rw[h1] at k1;cases k1;omega
   | none _ k2=>exact absurd h2 (k2 _ h1).1
 | var h1 h2=>
   intro r' h';have h0:=sg_kind h1 (by omega)
   cases h' with
   | deep k1=>rw[h0] at k1;simp[pre3] at k1
   | par k1=>rw[h0] at k1;cases k1
   | parOpen k1=>rw[h0] at k1;cases k1
   | parBad k1=>rw[h0] at k1;cases k1
   | neg k1=>rw[h0] at k1;cases k1
   | not k1=>rw[h0] at k1;cases k1
   | unBad k1=>rw[h0] at k1;rcases k1 with k1 | k1 <;> cases k1
   | num k1 k2=>rw[h1] at k1;cases k1;omega
   | var k1 k2=>rw[h1] at k1;cases k1;rfl
   | none _ k2=>exact absurd h2 (k2 _ h1).2
 | none h1 h2=>
   intro r' h'
   cases h' with
   | deep k1=>exact absurd k1 h1
   | par k1=>exact absurd (.inr (.inr k1)) h1
   | parOpen k1=>exact absurd (.inr (.inr k1)) h1
   | parBad k1=>exact absurd (.inr (.inr k1)) h1
   | neg k1=>exact absurd (.inl k1) h1
   | not k1=>exact absurd (.inr (.inl k1)) h1
   | unBad k1=>exact absurd (by rcases k1 with k1 | k1;exact .inl k1;exact .inr (.inl k1)) h1
   | num k1 k2=>exact absurd k2 (h2 _ k1).1
   | var k1 k2=>exact absurd k2 (h2 _ k1).2
   | none=>rfl
 | some h1 h2 ih1 ih2=>
   intro r' h'
   cases h' with
   | some k1 k2=>cases ih1 k1;exact ih2 k2
   | someBad k1=>cases ih1 k1
 | someBad h1 ih=>
   intro r' h'
   cases h' with
   | some k1=>cases ih k1
   | someBad k1=>cases ih k1;rfl
 | stop h1=>
   intro r' h'
   cases h' with
   | stop=>rfl
   | opDeep=>omega
   | op=>omega
   | opBad=>omega
 | opDeep h1 h2=>
   intro r' h'
   cases h' with
   | stop=>omega
   | opDeep=>rfl
   | op=>omega
   | opBad=>omega
 | op h1 h2 h3 h4 ih3 ih4=>
   intro r' h'
   cases h' with
   | stop=>omega
   | opDeep=>omega
   | op _ _ k3 k4=>cases ih3 k3;exact ih4 k4
   | opBad _ _ k3=>cases ih3 k3
 | opBad h1 h2 h3 ih=>
   intro r' h'
   cases h' with
   | stop=>omega
   | opDeep=>omega
   | op _ _ k3=>cases ih k3
   | opBad _ _ k3=>cases ih k3;rfl
def Md.pos:Md→Prop
 | .one=>True
 | .some m=>1≤m
 | .loop m _=>1≤m
def Rs.within (l:List Tok) (i:Nat):Rs→Prop
 | .ok _ j=>i≤j∧j≤l.length
 | .bad j e=>i≤j∧j≤l.length∧(e=1∨e=8)
theorem RdE.within {l:List Tok} {m:Md} {i d:Nat} {r:Rs} (h:RdE l m i d r):m.pos→i≤l.length→r.within l i:=by
 have lt:∀ {i w},sg l i=w→w≠[]→i<l.length:=fun h hw=>sg_lt (by rw[h];exact hw)
 induction h with
 | deep=>intro _ hi;exact⟨Nat.le_refl _,hi,.inr rfl⟩
 | par h1 h2 h3 h4 ih=>
   intro _ hi;have a1:=lt h1 (by decide);have a2:=lt h4 (by decide);obtain⟨b1,b2⟩:=ih (Nat.le_refl 1) (by omega);exact⟨by omega,by omega⟩
 | parOpen h1 h2 h3 h4 ih=>
   intro _ hi;have a1:=lt h1 (by decide);obtain⟨b1,b2⟩:=ih (Nat.le_refl 1) (by omega);exact⟨by omega,b2,.inl rfl⟩
 | parBad h1 h2 h3 ih=>
   intro _ hi;have a1:=lt h1 (by decide);obtain⟨b1,b2,b3⟩:=ih (Nat.le_refl 1) (by omega);exact⟨by omega,b2,b3⟩
 | neg h1 h2 h3 ih=>
   intro _ hi;have a1:=lt h1 (by decide);obtain⟨b1,b2⟩:=ih trivial (by omega);exact⟨by omega,b2⟩
 | not h1 h2 h3 ih=>
   intro _ hi;have a1:=lt h1 (by decide);obtain⟨b1,b2⟩:=ih trivial (by omega);exact⟨by omega,b2⟩
 | @unBad i d j e h1 h2 h3 ih=>
   intro _ hi;have a1:i<l.length:=by rcases h1 with h1 | h1 <;> exact lt h1 (by decide)
   obtain⟨b1,b2,b3⟩:=ih trivial (by omega);exact⟨by omega,b2,b3⟩
 | num h1=>intro _ hi;have:=(List.getElem?_eq_some_iff.1 h1).1;exact⟨by omega,by omega⟩
 | var h1=>intro _ hi;have:=(List.getElem?_eq_some_iff.1 h1).1;exact⟨by omega,by omega⟩
 | none=>intro _ hi;exact⟨Nat.le_refl _,hi,.inl rfl⟩
 | @some m i d x j r h1 h2 ih1 ih2=>
   intro hp hi;obtain⟨b1,b2⟩:=ih1 trivial hi;have:=ih2 hp b2
   cases r with
   | ok y k=>exact⟨by have:=this.1;omega,this.2⟩
   | bad k e=>exact⟨by have:=this.1;omega,this.2⟩
 | someBad h1 ih=>intro _ hi;exact ih trivial hi
 | stop=>intro _ hi;exact⟨Nat.le_refl _,hi⟩
 | opDeep=>intro _ hi;exact⟨Nat.le_refl _,hi,.inr rfl⟩
 | @op m x i d y k r h1 h2 h3 h4 ih3 ih4=>
   intro hp hi;have a1:=strong_sg_lt hp h1;obtain⟨b1,b2⟩:=ih3 (by show 1≤strong (sg l i)+1;omega) (by omega);have:=ih4 hp b2
   cases r with
   | ok y k=>exact⟨by have:=this.1;omega,this.2⟩
   | bad k e=>exact⟨by have:=this.1;omega,this.2⟩
 | @opBad m x i d j e h1 h2 h3 ih=>
   intro hp hi;have a1:=strong_sg_lt hp h1;obtain⟨b1,b2,b3⟩:=ih (by show 1≤strong (sg l i)+1;omega) (by omega);exact⟨by omega,b2,b3⟩
def shapeX (k n:Int) (nm op:Bs) (c:Nat):Bool:=
 if k=0 then decide (0≤n) && nm.isEmpty && op.isEmpty && c==0
 else if k=1 then decide (n=0) && isName nm && op.isEmpty && c==0
 else if k=2∨k=3 then decide (n=0) && nm.isEmpty && op.isEmpty && c==1
 else if k=4 then decide (n=0) && nm.isEmpty && (strong op != 0) && c==2 else false
mutual
def mayX:Ex→Nat→Bool
 | .mk k n nm op ks,d=>shapeX k n nm op ks.length && (ks.isEmpty || decide (d<64)) && mayL ks (d+1)
def mayL:List Ex→Nat→Bool
 | [],_=>true
 | x::r,d=>mayX x d && mayL r d
end
theorem mayL_all:∀ {l:List Ex} {d:Nat},mayL l d=true→∀ x∈l,mayX x d=true
 | [],d,_,x,hx=>by cases hx
 | y::l,d,h,x,hx=>by
   rw[mayL,Bool.and_eq_true] at h
   rcases List.mem_cons.1 hx with rfl | hx
   ·exact h.1
   ·exact mayL_all h.2 x hx
theorem blockX_add (a:Addr) (n:Nat):(a.add n).block=a.block:=by unfold Addr.add;split <;> rfl
def valX (r:Ex) (A:Option Addr) (c:Nat):Value:=match r with
 | .mk k n nm op ks=> .agg #[.int .i64 k,.int .i64 n,.string ⟨nm.toArray⟩,.string ⟨op.toArray⟩,.slice A ks.length c]
def AtX (w:World) (a:Addr) (r:Ex) (A:Option Addr) (c:Nat):Prop:=match r with
 | .mk k n nm op ks=>
   w.cell? a=some (.int .i64 k)∧w.cell? ⟨a.block,a.off+1,none⟩=some (.int .i64 n)∧w.cell? ⟨a.block,a.off+2,none⟩=some (.string ⟨nm.toArray⟩)∧
   w.cell? ⟨a.block,a.off+3,none⟩=some (.string ⟨op.toArray⟩)∧w.cell? ⟨a.block,a.off+4,none⟩=some (.slice A ks.length c)
mutual
def KidsX (P:Nat→Prop) (w:World) (A:Option Addr):Ex→Prop
 | .mk _ _ _ _ ks=>ks=[]∨∃ ad,A=some ad∧P ad.block∧KidsXL P w ad 0 ks
def KidsXL (P:Nat→Prop) (w:World) (ad:Addr) (i:Nat):List Ex→Prop
 | []=>True
 | r::rs=>(∃ A c,AtX w (ad.add (i * 5)) r A c∧KidsX P w A r)∧KidsXL P w ad (i+1) rs
end
theorem kidsXL_at {P:Nat→Prop} {w:World} {ad:Addr}:∀ {l:List Ex} {i k:Nat} {r:Ex},KidsXL P w ad i l→l[k]?=some r→∃ A c,AtX w (ad.add ((i+k) * 5)) r A c∧KidsX P w A r
 | [],i,k,r,_,hk=>by simp at hk
 | x::l,i,0,r,h,hk=>by
   injection hk with hk;subst hk
   rw[KidsXL] at h;exact h.1
 | x::l,i,k+1,r,h,hk=>by
   rw[KidsXL] at h;have:=kidsXL_at h.2 (k:=k) (r:=r) (by simpa using hk);rw[show i+(k+1)=i+1+k by omega];exact this
theorem AtX.keep {w w':World} {a:Addr} {r:Ex} {A:Option Addr} {c:Nat} (h:AtX w a r A c) (hb:∀ p:Addr,p.block=a.block→w'.cell? p=w.cell? p):AtX w' a r A c:=by
 obtain⟨k,n,nm,op,ks⟩:=r;obtain⟨a0,a1,a2,a3,a4⟩:=h;exact⟨(hb a rfl).trans a0,(hb ⟨a.block,a.off+1,none⟩ rfl).trans a1,(hb ⟨a.block,a.off+2,none⟩ rfl).trans a2,(hb ⟨a.block,a.off+3,none⟩ rfl).trans a3,(hb ⟨a.block,a.off+4,none⟩ rfl).trans a4⟩
theorem kidsXL_of {P Q:Nat→Prop} {w w':World} (ad:Addr) (hs:∀ p:Addr,P p.block→w'.cell? p=w.cell? p) (hp:P ad.block):∀ (l:List Ex) (i:Nat),(∀ r∈l,∀ A,KidsX P w A r→KidsX Q w' A r)→KidsXL P w ad i l→KidsXL Q w' ad i l
 | [],i,_,h=>by rw[KidsXL];trivial
 | r::l,i,ih,h=>by
   rw[KidsXL] at h ⊢;obtain⟨⟨A,c,h1,h2⟩,h3⟩:=h;exact⟨⟨A,c,h1.keep (fun p hpb=>hs p (by rw[hpb,blockX_add];exact hp)),ih r (by simp) A h2⟩,kidsXL_of ad hs hp l (i+1) (fun r hr=>ih r (by simp[hr])) h3⟩
theorem kidsX_of {P Q:Nat→Prop} {w w':World} (hs:∀ p:Addr,P p.block→w'.cell? p=w.cell? p) (hPQ:∀ k,P k→Q k):∀ (r:Ex) (A:Option Addr),KidsX P w A r→KidsX Q w' A r:=by
 intro r
 induction r using Ex.ind with
 | h k n nm op ks ih=>
   intro A h;rw[KidsX] at h ⊢
   rcases h with h | ⟨ad,rfl,hp,hl⟩
   ·exact .inl h
   ·exact .inr ⟨ad,rfl,hPQ _ hp,kidsXL_of ad hs hp ks 0 ih hl⟩
def LtX (B:Nat):Nat→Prop:=fun k=>k<B
theorem KidsX.next {w w':World} {A:Option Addr} {r:Ex} (h:KidsX (LtX w.heap.size) w A r) (hb:Below w.heap.size w w'):KidsX (LtX w'.heap.size) w' A r:=kidsX_of (fun _ h=>hb.cell h) (fun _ h=>Nat.lt_of_lt_of_le h hb.size) r A h
theorem kidX_at {w wr:World} {A:Option Addr} {r x:Ex} {j:Nat} (h:KidsX (LtX w.heap.size) w A r) (hb:Below w.heap.size w wr) (hx:r.kids[j]?=some x):
  ∃ ad A' c',A=some ad∧ad.block<w.heap.size∧AtX wr (ad.add (j * 5)) x A' c'∧KidsX (LtX w.heap.size) w A' x:=by
 obtain⟨k0,n,nm,op,ks⟩:=r;rw[KidsX] at h
 rcases h with h | ⟨ad,rfl,hp,hl⟩
 ·simp[Ex.kids,h] at hx
 ·obtain⟨A',c,h1,h2⟩:=kidsXL_at hl hx
  rw[Nat.zero_add] at h1;exact⟨ad,A',c,rfl,hp,h1.keep (fun p hpb=>hb.cell (by rw[hpb,blockX_add];exact hp)),h2⟩
theorem getX_of_lt {α:Type} {l:List α} {k n:Nat} (hn:n=l.length) (h:k<n):∃ p,l[k]?=some p:=⟨_,List.getElem?_eq_getElem (by omega)⟩
mutual
def sizeX:Ex→Nat
 | .mk _ _ _ _ ks=>1+sizeXL ks
def sizeXL:List Ex→Nat
 | []=>0
 | r::rs=>sizeX r+sizeXL rs
end
theorem sizeXL_mem {l:List Ex} {r:Ex} (h:r∈l):sizeX r≤sizeXL l:=by
 induction l with
 | nil=>cases h
 | cons x l ih=>
   rw[sizeXL]
   rcases List.mem_cons.1 h with rfl | h
   ·omega
   ·have:=ih h;omega
theorem sizeXL_len (l:List Ex):l.length≤sizeXL l:=by
 induction l with
 | nil=>simp[sizeXL]
 | cons x l ih=>rw[sizeXL,List.length_cons];cases x;rw[sizeX];omega
mutual
def nmX:Ex→Nat
 | .mk _ _ nm _ ks=>nm.length+nmXL ks
def nmXL:List Ex→Nat
 | []=>0
 | r::rs=>nmX r+nmXL rs
end
theorem nmXL_mem {l:List Ex} {r:Ex} (h:r∈l):nmX r≤nmXL l:=by
 induction l with
 | nil=>cases h
 | cons x l ih=>
   rw[nmXL]
   rcases List.mem_cons.1 h with rfl | h
   ·omega
   ·have:=ih h;omega
def Md.sz:Md→Nat
 | .one=>0
 | .some _=>0
 | .loop _ x=>sizeX x
def Md.nz:Md→Nat
 | .one=>0
 | .some _=>0
 | .loop _ x=>nmX x
theorem size_num (n:Int):sizeX (exNum n)=1∧nmX (exNum n)=0:=by simp[exNum,sizeX,sizeXL,nmX,nmXL]
theorem size_var (w:Bs):sizeX (exVar w)=1∧nmX (exVar w)=w.length:=by simp[exVar,sizeX,sizeXL,nmX,nmXL]
theorem size_neg (x:Ex):sizeX (exNeg x)=1+sizeX x∧nmX (exNeg x)=nmX x:=by simp[exNeg,sizeX,sizeXL,nmX,nmXL]
theorem size_not (x:Ex):sizeX (exNot x)=1+sizeX x∧nmX (exNot x)=nmX x:=by simp[exNot,sizeX,sizeXL,nmX,nmXL]
theorem size_bin (op:Bs) (x y:Ex):sizeX (exBin op x y)=1+(sizeX x+sizeX y)∧nmX (exBin op x y)=nmX x+nmX y:=by simp[exBin,sizeX,sizeXL,nmX,nmXL]
theorem RdE.sized {l:List Tok} (hM:∀ t∈l,t.word.length≤200) {m:Md} {i d:Nat} {r:Rs} (h:RdE l m i d r):∀ y j,r= .ok y j→m.pos→i≤l.length→sizeX y+i≤m.sz+j∧nmX y+200 * i≤m.nz+200 * j:=by
 have lt:∀ {i w},sg l i=w→w≠[]→i<l.length:=fun h hw=>sg_lt (by rw[h];exact hw)
 induction h with
 | deep=>intro y j e;cases e
 | par h1 h2 h3 h4 ih=>
   intro y j e _ hi
   cases e
   have a1:=lt h1 (by decide);have:=ih _ _ rfl (Nat.le_refl 1) (by omega);simp only[Md.sz,Md.nz] at this ⊢;omega
 | parOpen=>intro y j e;cases e
 | parBad=>intro y j e;cases e
 | neg h1 h2 h3 ih=>
   intro y j e _ hi
   cases e
   have a1:=lt h1 (by decide);have:=ih _ _ rfl trivial (by omega);rw[(size_neg _).1,(size_neg _).2];simp only[Md.sz,Md.nz] at this ⊢;omega
 | not h1 h2 h3 ih=>
   intro y j e _ hi
   cases e
   have a1:=lt h1 (by decide);have:=ih _ _ rfl trivial (by omega);rw[(size_not _).1,(size_not _).2];simp only[Md.sz,Md.nz] at this ⊢;omega
 | unBad=>intro y j e;cases e
 | num h1 h2=>
   intro y j e _ hi
   cases e
   rw[(size_num _).1,(size_num _).2];simp only[Md.sz,Md.nz];omega
 | var h1 h2=>
   intro y j e _ hi
   cases e
   have:=hM _ (List.mem_of_getElem? h1);rw[(size_var _).1,(size_var _).2];simp only[Md.sz,Md.nz];omega
 | none=>intro y j e;cases e
 | some h1 h2 ih1 ih2=>
   intro y j e hp hi;have a:=ih1 _ _ rfl trivial hi;have b:=ih2 _ _ e hp (h1.within trivial hi).2;simp only[Md.sz,Md.nz] at a b ⊢;omega
 | someBad=>intro y j e;cases e
 | stop=>
   intro y j e _ _
   cases e
   simp only[Md.sz,Md.nz];omega
 | opDeep=>intro y j e;cases e
 | @op m x i d y k r h1 h2 h3 h4 ih3 ih4=>
   intro y' j e hp hi;have a1:=strong_sg_lt hp h1;have hpos:(Md.some (strong (sg l i)+1)).pos:=by show 1≤strong (sg l i)+1;omega
   have a:=ih3 _ _ rfl hpos (by omega);have b:=ih4 _ _ e hp (h3.within hpos (by omega)).2;simp only[Md.sz,Md.nz] at a b ⊢;rw[(size_bin _ _ _).1,(size_bin _ _ _).2] at b;omega
 | opBad=>intro y j e;cases e
theorem RdE.small {l:List Tok} (hM:∀ t∈l,t.word.length≤200) {m i d j:Nat} {y:Ex} (hm:1≤m) (hi:i≤l.length) (h:RdE l (.some m) i d (.ok y j)):sizeX y≤l.length∧nmX y≤200 * l.length:=by
 have a:=h.sized hM y j rfl hm hi;have b:=(h.within hm hi).2;simp only[Md.sz,Md.nz] at a;omega
noncomputable def eqB {α:Type} (a b:α):Bool:=@decide (a=b) (Classical.propDecidable _)
theorem eqB_no {α:Type} {a b:α} (h:a≠b):eqB a b=false:=@decide_eq_false _ (Classical.propDecidable _) h
theorem eqB_yes {α:Type} {a b:α} (h:a=b):eqB a b=true:=@decide_eq_true _ (Classical.propDecidable _) h
theorem eqB_of {α:Type} {a b:α} (h:eqB a b=true):a=b:=@of_decide_eq_true _ (Classical.propDecidable _) h
theorem eqB_not {α:Type} {a b:α} (h:eqB a b=false):a≠b:=fun e=>by rw[eqB_yes e] at h;cases h
theorem take_eqX {α:Type} {a b:List α} {k:Nat} {p:α} (h:a.take k=b.take k) (h1:a[k]?=some p) (h2:b[k]?=some p):a.take (k+1)=b.take (k+1):=by
 obtain⟨hk,e⟩:=List.getElem?_eq_some_iff.1 h1;obtain⟨hk',e'⟩:=List.getElem?_eq_some_iff.1 h2;rw[List.take_succ_eq_append_getElem hk,List.take_succ_eq_append_getElem hk',h,e,e']
theorem not_eqX {α:Type} {a b:List α} {k:Nat} {p q:α} (h1:a[k]?=some p) (h2:b[k]?=some q) (h:p≠q):a≠b:=by
 rintro rfl;rw[h1] at h2;injection h2 with h2;exact h h2
theorem nameX_eq {x y:Bs} {X Y:ByteArray} (hX:X=⟨x.toArray⟩) (hY:Y=⟨y.toArray⟩):(X.toList==Y.toList)=eqB x y:=by
 rw[toList_data,toList_data,hX,hY];by_cases h:x=y
 ·rw[eqB_yes h,h];simp
 ·rw[eqB_no h];simpa using h
theorem two_boxesX (w:World) (o o':Obj):Below w.heap.size w ((w.alloc o).alloc o'):=((Below.refl _ _).alloc (Nat.le_refl _) _).alloc (by simp) _
theorem isOp_eq (S:ByteArray) (c:Bs) (b:Bool) (h:decide (S.data.toList=c)=b):(S.toList==c)=b:=by
 rw[toList_data,←h,Bool.eq_iff_iff];simp
theorem strengthX_any (S:ByteArray) (w:World):Calls Tryz.prog 96 #[.string S] w fun e w'=>e= .returned (.int .i64 (strong S.data.toList))∧w=w':=by
 obtain⟨v,hv⟩:∃ v:Int,v=strong S.data.toList:=⟨_,rfl⟩;rw[←hv];by_cases h0:S.data.toList=[124,124]
 ·have b0:=isOp_eq S _ _ (decide_eq_true h0)
  have HX:Hid (v=1):=Lib.hid (by rw[hv,h0];decide);clear hv h0;go_enter Tryz.func96,Tryz.ntmps96;go_wp2;go_ret;exact⟨ret_int HX.out.symm,rfl⟩
 have b0:=isOp_eq S _ _ (decide_eq_false h0);by_cases h1:S.data.toList=[38,38]
 ·have b1:=isOp_eq S _ _ (decide_eq_true h1)
  have HX:Hid (v=2):=Lib.hid (by rw[hv,h1];decide);clear hv h0 h1;go_enter Tryz.func96,Tryz.ntmps96;go_wp2;go_ret;exact⟨ret_int HX.out.symm,rfl⟩
 have b1:=isOp_eq S _ _ (decide_eq_false h1);by_cases h2:S.data.toList=[61,61]
 ·have b2:=isOp_eq S _ _ (decide_eq_true h2)
  have HX:Hid (v=3):=Lib.hid (by rw[hv,h2];decide);clear hv h0 h1 h2;go_enter Tryz.func96,Tryz.ntmps96;go_wp2;go_ret;exact⟨ret_int HX.out.symm,rfl⟩
 have b2:=isOp_eq S _ _ (decide_eq_false h2);by_cases h3:S.data.toList=[33,61]
 ·have b3:=isOp_eq S _ _ (decide_eq_true h3)
  have HX:Hid (v=3):=Lib.hid (by rw[hv,h3];decide);clear hv h0 h1 h2 h3;go_enter Tryz.func96,Tryz.ntmps96;go_wp2;go_ret;exact⟨ret_int HX.out.symm,rfl⟩
 have b3:=isOp_eq S _ _ (decide_eq_false h3);by_cases h4:S.data.toList=[60]
 ·have b4:=isOp_eq S _ _ (decide_eq_true h4)
  have HX:Hid (v=4):=Lib.hid (by rw[hv,h4];decide);clear hv h0 h1 h2 h3 h4;go_enter Tryz.func96,Tryz.ntmps96;go_wp2;go_ret;exact⟨ret_int HX.out.symm,rfl⟩
 have b4:=isOp_eq S _ _ (decide_eq_false h4);by_cases h5:S.data.toList=[62]
 ·have b5:=isOp_eq S _ _ (decide_eq_true h5)
  have HX:Hid (v=4):=Lib.hid (by rw[hv,h5];decide);clear hv h0 h1 h2 h3 h4 h5;go_enter Tryz.func96,Tryz.ntmps96;go_wp2;go_ret;exact⟨ret_int HX.out.symm,rfl⟩
 have b5:=isOp_eq S _ _ (decide_eq_false h5);by_cases h6:S.data.toList=[60,61]
 ·have b6:=isOp_eq S _ _ (decide_eq_true h6)
  have HX:Hid (v=4):=Lib.hid (by rw[hv,h6];decide);clear hv h0 h1 h2 h3 h4 h5 h6;go_enter Tryz.func96,Tryz.ntmps96;go_wp2;go_ret;exact⟨ret_int HX.out.symm,rfl⟩
 have b6:=isOp_eq S _ _ (decide_eq_false h6);by_cases h7:S.data.toList=[62,61]
 ·have b7:=isOp_eq S _ _ (decide_eq_true h7)
  have HX:Hid (v=4):=Lib.hid (by rw[hv,h7];decide);clear hv h0 h1 h2 h3 h4 h5 h6 h7;go_enter Tryz.func96,Tryz.ntmps96;go_wp2;go_ret;exact⟨ret_int HX.out.symm,rfl⟩
 have b7:=isOp_eq S _ _ (decide_eq_false h7);by_cases h8:S.data.toList=[43]
 ·have b8:=isOp_eq S _ _ (decide_eq_true h8)
  have HX:Hid (v=5):=Lib.hid (by rw[hv,h8];decide);clear hv h0 h1 h2 h3 h4 h5 h6 h7 h8;go_enter Tryz.func96,Tryz.ntmps96;go_wp2;go_ret;exact⟨ret_int HX.out.symm,rfl⟩
 have b8:=isOp_eq S _ _ (decide_eq_false h8);by_cases h9:S.data.toList=[45]
 ·have b9:=isOp_eq S _ _ (decide_eq_true h9)
  have HX:Hid (v=5):=Lib.hid (by rw[hv,h9];decide);clear hv h0 h1 h2 h3 h4 h5 h6 h7 h8 h9;go_enter Tryz.func96,Tryz.ntmps96;go_wp2;go_ret;exact⟨ret_int HX.out.symm,rfl⟩
 have b9:=isOp_eq S _ _ (decide_eq_false h9);by_cases h10:S.data.toList=[42]
 ·have b10:=isOp_eq S _ _ (decide_eq_true h10)
  have HX:Hid (v=6):=Lib.hid (by rw[hv,h10];decide);clear hv h0 h1 h2 h3 h4 h5 h6 h7 h8 h9 h10;go_enter Tryz.func96,Tryz.ntmps96;go_wp2;go_ret;exact⟨ret_int HX.out.symm,rfl⟩
 have b10:=isOp_eq S _ _ (decide_eq_false h10);by_cases h11:S.data.toList=[47]
 ·have b11:=isOp_eq S _ _ (decide_eq_true h11)
  have HX:Hid (v=6):=Lib.hid (by rw[hv,h11];decide);clear hv h0 h1 h2 h3 h4 h5 h6 h7 h8 h9 h10 h11;go_enter Tryz.func96,Tryz.ntmps96;go_wp2;go_ret;exact⟨ret_int HX.out.symm,rfl⟩
 have b11:=isOp_eq S _ _ (decide_eq_false h11);by_cases h12:S.data.toList=[37]
 ·have b12:=isOp_eq S _ _ (decide_eq_true h12)
  have HX:Hid (v=6):=Lib.hid (by rw[hv,h12];decide);clear hv h0 h1 h2 h3 h4 h5 h6 h7 h8 h9 h10 h11 h12;go_enter Tryz.func96,Tryz.ntmps96;go_wp2;go_ret;exact⟨ret_int HX.out.symm,rfl⟩
 have b12:=isOp_eq S _ _ (decide_eq_false h12);have HX:Hid (v=0):=Lib.hid (by rw[hv];unfold strong;simp[h0,h1,h2,h3,h4,h5,h6,h7,h8,h9,h10,h11,h12]);clear hv h0 h1 h2 h3 h4 h5 h6 h7 h8 h9 h10 h11 h12;go_enter Tryz.func96,Tryz.ntmps96;go_wp2;go_ret;exact⟨ret_int HX.out.symm,rfl⟩
def TkAt (w:World) (a:Addr) (t:Tok) (A:Option Addr) (c:Nat):Prop:=
 w.cell? a=some (.int .i64 t.kind)∧w.cell? ⟨a.block,a.off+1,none⟩=some (.string ⟨t.word.toArray⟩)∧w.cell? ⟨a.block,a.off+2,none⟩=some (.int .i64 t.n)∧w.cell? ⟨a.block,a.off+3,none⟩=some (.slice A t.parts.length c)∧w.cell? ⟨a.block,a.off+4,none⟩=some (.int .i64 t.pl)
def TokRow (B:Nat) (w:World) (A:Option Addr) (l:List Tok):Prop:=∀ (k:Nat) (t:Tok),l[k]?=some t→∃ ad A' c',A=some ad∧ad.block<B∧TkAt w (ad.add (k * 5)) t A' c'
theorem TkAt.keep {w w':World} {a:Addr} {t:Tok} {A:Option Addr} {c:Nat} (h:TkAt w a t A c) (hb:∀ p:Addr,p.block=a.block→w'.cell? p=w.cell? p):TkAt w' a t A c:=by
 obtain⟨a0,a1,a2,a3,a4⟩:=h;exact⟨(hb a rfl).trans a0,(hb ⟨a.block,a.off+1,none⟩ rfl).trans a1,(hb ⟨a.block,a.off+2,none⟩ rfl).trans a2,(hb ⟨a.block,a.off+3,none⟩ rfl).trans a3,(hb ⟨a.block,a.off+4,none⟩ rfl).trans a4⟩
theorem TokRow.keep {B:Nat} {w w':World} {A:Option Addr} {l:List Tok} (h:TokRow B w A l) (hb:∀ p:Addr,p.block<B→w'.cell? p=w.cell? p):TokRow B w' A l:=fun k t ht=>by
 obtain⟨ad,A',c',e,hlt,h5⟩:=h k t ht;exact⟨ad,A',c',e,hlt,h5.keep fun p hp=>hb p (by rw[hp,blockX_add];exact hlt)⟩
structure RdrX (b:Nat) (w:World) (A:Option Addr) (n c:Nat) (l:List Tok) (k o:Nat):Prop where
 c0:w.cell? ⟨b,0,none⟩=some (.slice A n c)
 c1:w.cell? ⟨b,1,none⟩=some (.int .i64 k)
 c2:w.cell? ⟨b,2,none⟩=some (.int .i64 o)
 f1:w.frozen? ⟨b,1,none⟩=false
 f2:w.frozen? ⟨b,2,none⟩=false
 row:TokRow b w A l
 len:n=l.length
theorem RdrX.lt {b:Nat} {w:World} {A:Option Addr} {n c:Nat} {l:List Tok} {k o:Nat} (h:RdrX b w A n c l k o):b<w.heap.size:=World.block_lt_of_cell? w _ h.c0
theorem RdrX.next {b:Nat} {w w':World} {A:Option Addr} {n c:Nat} {l:List Tok} {k o:Nat} (h:RdrX b w A n c l k o) (hb:Below w.heap.size w w'):RdrX b w' A n c l k o:=
 ⟨(hb.cell (p:=⟨b,0,none⟩) h.lt).trans h.c0,(hb.cell (p:=⟨b,1,none⟩) h.lt).trans h.c1,(hb.cell (p:=⟨b,2,none⟩) h.lt).trans h.c2,(hb.frozen (p:=⟨b,1,none⟩) h.lt).trans h.f1,(hb.frozen (p:=⟨b,2,none⟩) h.lt).trans h.f2,
   h.row.keep fun _ hp=>hb.cell (Nat.lt_trans hp h.lt),h.len⟩
theorem RdrX.place {b:Nat} {w:World} {A:Option Addr} {n c:Nat} {l:List Tok} {k o:Nat} (h:RdrX b w A n c l k o) (j:Nat):RdrX b (w.setCell ⟨b,1,none⟩ (.int .i64 j)) A n c l j o:=by
 have hs:(w.cell? ⟨b,1,none⟩).isSome=true:=by rw[h.c1];rfl
 refine⟨?_,?_,?_,?_,?_,h.row.keep fun p hp=>World.cell?_of_block (Below.heap_setCell _ _ _ _ (by show p.block≠b;omega)),h.len⟩
 ·rw[World.cell?_setCell_other _ _ _ _ (by simp)];exact h.c0
 ·exact World.cell?_setCell_same' _ _ _ hs
 ·rw[World.cell?_setCell_other _ _ _ _ (by simp)];exact h.c2
 ·rw[World.frozen?_setCell];exact h.f1
 ·rw[World.frozen?_setCell];exact h.f2
theorem RdrX.fault {b:Nat} {w:World} {A:Option Addr} {n c:Nat} {l:List Tok} {k o:Nat} (h:RdrX b w A n c l k o) (j:Nat):RdrX b (w.setCell ⟨b,2,none⟩ (.int .i64 j)) A n c l k j:=by
 have hs:(w.cell? ⟨b,2,none⟩).isSome=true:=by rw[h.c2];rfl
 refine⟨?_,?_,?_,?_,?_,h.row.keep fun p hp=>World.cell?_of_block (Below.heap_setCell _ _ _ _ (by show p.block≠b;omega)),h.len⟩
 ·rw[World.cell?_setCell_other _ _ _ _ (by simp)];exact h.c0
 ·rw[World.cell?_setCell_other _ _ _ _ (by simp)];exact h.c1
 ·exact World.cell?_setCell_same' _ _ _ hs
 ·rw[World.frozen?_setCell];exact h.f1
 ·rw[World.frozen?_setCell];exact h.f2
def sgX (l:List Tok) (k o:Nat):Bs:=if o=0 then sg l k else []
theorem nilB:(⟨([]:Bs).toArray⟩:ByteArray)=⟨#[]⟩:=rfl
theorem signX_any (b:Nat) (w:World) (A:Option Addr) (n c:Nat) (l:List Tok) (k o:Nat) (h:RdrX b w A n c l k o) (ho:o≤100):
  Calls Tryz.prog 142 #[.pointer (some ⟨b,0,none⟩)] w fun e w'=>e= .returned (.string ⟨(sgX l k o).toArray⟩)∧Below w.heap.size w w':=by
 obtain⟨S,hS⟩:∃ S:ByteArray,S=⟨(sgX l k o).toArray⟩:=⟨_,rfl⟩;rw[←hS];unfold sgX at hS;obtain⟨c0,c1,c2,_,_,row,len⟩:=h
 suffices hs:Calls Tryz.prog 142 #[.pointer (some ⟨b,0,none⟩)] w fun e w'=>e= .returned (.string S)∧Hid (Below w.heap.size w w') from hs.mono fun e w' ⟨a,hm⟩=>⟨a,hm.out⟩
 by_cases o0:o=0
 ·subst o0
  rw[if_pos rfl] at hS;by_cases a:k<n
  ·have hkl:k<l.length:=by omega
   obtain⟨ad,A',c',rfl,_,h5⟩:=row k l[k] (List.getElem?_eq_getElem hkl);unfold sg at hS;rw[List.getElem?_eq_getElem hkl] at hS;dsimp only at hS;have d0:=h5.1;have d1:=h5.2.1;clear h5;have b1:decide ((k:Int)<(n:Int))=true:=by simp;omega
   generalize l[k]=t at hS d0 d1;by_cases e:t.kind=4
   ·rw[if_pos e] at hS
    rw[←hS] at d1;rw[e] at d0;clear hS row len e hkl;go_enter Tryz.func142,Tryz.ntmps142;go_wp2;go_quiet (fail);go_wp2;go_quiet (fail);go_wp2;go_ret;exact⟨rfl,Lib.hid (below_drewN (below_drewN (Below.refl _ _) _) _)⟩
   ·rw[if_neg e,nilB] at hS
    subst hS;obtain⟨K,hK⟩:∃ K:Int,K=t.kind:=⟨_,rfl⟩;rw[←hK] at d0 e;have t1:(K==4)=false:=by simpa using e
    clear row len e hkl hK;go_enter Tryz.func142,Tryz.ntmps142;go_wp2;go_quiet (fail);go_wp2;go_ret;exact⟨rfl,Lib.hid (below_drewN (Below.refl _ _) _)⟩
  ·rw[sg_past (by omega),nilB] at hS
   subst hS;have b1:decide ((k:Int)<(n:Int))=false:=by simp;omega
   have b2:decide (k<n)=false:=by simp;omega
   clear row len;go_enter Tryz.func142,Tryz.ntmps142;go_wp2;go_quiet (fail);go_wp2;go_ret;exact⟨rfl,Lib.hid (below_drewN (Below.refl _ _) _)⟩
 ·rw[if_neg o0,nilB] at hS
  subst hS;have b0:((o:Int)==0)=false:=by simp;omega
  have b0':(o==0)=false:=by simp;omega
  clear o0 row len;go_enter Tryz.func142,Tryz.ntmps142;go_wp2;go_quiet (fail);go_wp2;go_ret;exact⟨rfl,Lib.hid (below_drewN (Below.refl _ _) _)⟩
theorem failX_any (er:Nat) (b:Nat) (w:World) (A:Option Addr) (n c:Nat) (l:List Tok) (k o:Nat) (h:RdrX b w A n c l k o) (ho:o≤100):
  Calls Tryz.prog 143 #[.pointer (some ⟨b,0,none⟩),.int .i64 er] w fun e w'=>e= .returned (.tuple #[])∧RdrX b w' A n c l k (if o=0 then er else o)∧w.grownBy w' (some b):=by
 have H:=Lib.hid h;obtain⟨c0,c1,c2,_,f2,_,_⟩:=h;by_cases o0:o=0
 ·subst o0
  rw[if_pos rfl];go_enter Tryz.func143,Tryz.ntmps143;go_wp2
  go_end0
  exact⟨rfl,H.out.fault er,⟨rfl,rfl,rfl,by simp[World.setCell],fun k _ hn=>Below.heap_setCell _ _ _ _ (by intro e;exact hn (by rw[e]))⟩⟩
 ·rw[if_neg o0]
  have b0:((o:Int)==0)=false:=by simp;omega
  have b0':(o==0)=false:=by simp;omega
  clear o0;go_enter Tryz.func143,Tryz.ntmps143;go_wp2
  go_end0
  exact⟨rfl,H.out,⟨rfl,rfl,rfl,Nat.le_refl _,fun _ _ _=>rfl⟩⟩
theorem cstrong_any (S:ByteArray) (w:World):Calls Tryz.prog 163 #[.string S] w fun e w'=>e= .returned (.int .i64 (strong S.data.toList))∧w=w':=by
 obtain⟨v,hv⟩:∃ v:Int,v=strong S.data.toList:=⟨_,rfl⟩;rw[←hv];by_cases h0:S.data.toList=[124,124]
 ·have b0:=isOp_eq S _ _ (decide_eq_true h0)
  have HX:Hid (v=1):=Lib.hid (by rw[hv,h0];decide);clear hv h0;go_enter Tryz.func163,Tryz.ntmps163;go_wp2;go_ret;exact⟨ret_int HX.out.symm,rfl⟩
 have b0:=isOp_eq S _ _ (decide_eq_false h0);by_cases h1:S.data.toList=[38,38]
 ·have b1:=isOp_eq S _ _ (decide_eq_true h1)
  have HX:Hid (v=2):=Lib.hid (by rw[hv,h1];decide);clear hv h0 h1;go_enter Tryz.func163,Tryz.ntmps163;go_wp2;go_ret;exact⟨ret_int HX.out.symm,rfl⟩
 have b1:=isOp_eq S _ _ (decide_eq_false h1);by_cases h2:S.data.toList=[61,61]
 ·have b2:=isOp_eq S _ _ (decide_eq_true h2)
  have HX:Hid (v=3):=Lib.hid (by rw[hv,h2];decide);clear hv h0 h1 h2;go_enter Tryz.func163,Tryz.ntmps163;go_wp2;go_ret;exact⟨ret_int HX.out.symm,rfl⟩
 have b2:=isOp_eq S _ _ (decide_eq_false h2);by_cases h3:S.data.toList=[33,61]
 ·have b3:=isOp_eq S _ _ (decide_eq_true h3)
  have HX:Hid (v=3):=Lib.hid (by rw[hv,h3];decide);clear hv h0 h1 h2 h3;go_enter Tryz.func163,Tryz.ntmps163;go_wp2;go_ret;exact⟨ret_int HX.out.symm,rfl⟩
 have b3:=isOp_eq S _ _ (decide_eq_false h3);by_cases h4:S.data.toList=[60]
 ·have b4:=isOp_eq S _ _ (decide_eq_true h4)
  have HX:Hid (v=4):=Lib.hid (by rw[hv,h4];decide);clear hv h0 h1 h2 h3 h4;go_enter Tryz.func163,Tryz.ntmps163;go_wp2;go_ret;exact⟨ret_int HX.out.symm,rfl⟩
 have b4:=isOp_eq S _ _ (decide_eq_false h4);by_cases h5:S.data.toList=[62]
 ·have b5:=isOp_eq S _ _ (decide_eq_true h5)
  have HX:Hid (v=4):=Lib.hid (by rw[hv,h5];decide);clear hv h0 h1 h2 h3 h4 h5;go_enter Tryz.func163,Tryz.ntmps163;go_wp2;go_ret;exact⟨ret_int HX.out.symm,rfl⟩
 have b5:=isOp_eq S _ _ (decide_eq_false h5);by_cases h6:S.data.toList=[60,61]
 ·have b6:=isOp_eq S _ _ (decide_eq_true h6)
  have HX:Hid (v=4):=Lib.hid (by rw[hv,h6];decide);clear hv h0 h1 h2 h3 h4 h5 h6;go_enter Tryz.func163,Tryz.ntmps163;go_wp2;go_ret;exact⟨ret_int HX.out.symm,rfl⟩
 have b6:=isOp_eq S _ _ (decide_eq_false h6);by_cases h7:S.data.toList=[62,61]
 ·have b7:=isOp_eq S _ _ (decide_eq_true h7)
  have HX:Hid (v=4):=Lib.hid (by rw[hv,h7];decide);clear hv h0 h1 h2 h3 h4 h5 h6 h7;go_enter Tryz.func163,Tryz.ntmps163;go_wp2;go_ret;exact⟨ret_int HX.out.symm,rfl⟩
 have b7:=isOp_eq S _ _ (decide_eq_false h7);by_cases h8:S.data.toList=[43]
 ·have b8:=isOp_eq S _ _ (decide_eq_true h8)
  have HX:Hid (v=5):=Lib.hid (by rw[hv,h8];decide);clear hv h0 h1 h2 h3 h4 h5 h6 h7 h8;go_enter Tryz.func163,Tryz.ntmps163;go_wp2;go_ret;exact⟨ret_int HX.out.symm,rfl⟩
 have b8:=isOp_eq S _ _ (decide_eq_false h8);by_cases h9:S.data.toList=[45]
 ·have b9:=isOp_eq S _ _ (decide_eq_true h9)
  have HX:Hid (v=5):=Lib.hid (by rw[hv,h9];decide);clear hv h0 h1 h2 h3 h4 h5 h6 h7 h8 h9;go_enter Tryz.func163,Tryz.ntmps163;go_wp2;go_ret;exact⟨ret_int HX.out.symm,rfl⟩
 have b9:=isOp_eq S _ _ (decide_eq_false h9);by_cases h10:S.data.toList=[42]
 ·have b10:=isOp_eq S _ _ (decide_eq_true h10)
  have HX:Hid (v=6):=Lib.hid (by rw[hv,h10];decide);clear hv h0 h1 h2 h3 h4 h5 h6 h7 h8 h9 h10;go_enter Tryz.func163,Tryz.ntmps163;go_wp2;go_ret;exact⟨ret_int HX.out.symm,rfl⟩
 have b10:=isOp_eq S _ _ (decide_eq_false h10);by_cases h11:S.data.toList=[47]
 ·have b11:=isOp_eq S _ _ (decide_eq_true h11)
  have HX:Hid (v=6):=Lib.hid (by rw[hv,h11];decide);clear hv h0 h1 h2 h3 h4 h5 h6 h7 h8 h9 h10 h11;go_enter Tryz.func163,Tryz.ntmps163;go_wp2;go_ret;exact⟨ret_int HX.out.symm,rfl⟩
 have b11:=isOp_eq S _ _ (decide_eq_false h11);by_cases h12:S.data.toList=[37]
 ·have b12:=isOp_eq S _ _ (decide_eq_true h12)
  have HX:Hid (v=6):=Lib.hid (by rw[hv,h12];decide);clear hv h0 h1 h2 h3 h4 h5 h6 h7 h8 h9 h10 h11 h12;go_enter Tryz.func163,Tryz.ntmps163;go_wp2;go_ret;exact⟨ret_int HX.out.symm,rfl⟩
 have b12:=isOp_eq S _ _ (decide_eq_false h12);have HX:Hid (v=0):=Lib.hid (by rw[hv];unfold strong;simp[h0,h1,h2,h3,h4,h5,h6,h7,h8,h9,h10,h11,h12]);clear hv h0 h1 h2 h3 h4 h5 h6 h7 h8 h9 h10 h11 h12;go_enter Tryz.func163,Tryz.ntmps163;go_wp2;go_ret;exact⟨ret_int HX.out.symm,rfl⟩
theorem grown_trans {b:Nat} {w w1 w2:World} (h:w.grownBy w1 (some b)) (k:w1.grownBy w2 (some b)):w.grownBy w2 (some b):=
 ⟨k.os.trans h.os,k.tape.trans h.tape,k.output.trans h.output,Nat.le_trans h.size k.size,fun i hi hn=>(k.block i (Nat.lt_of_lt_of_le hi h.size) hn).trans (h.block i hi hn)⟩
theorem grown_below {b:Nat} {w w1:World} (h:Below w.heap.size w w1):w.grownBy w1 (some b):=⟨h.os,h.tape,h.output,h.size,fun k hk _=>h.block k hk⟩
theorem grown_set (b o:Nat) (w:World) (u:Value):w.grownBy (w.setCell ⟨b,o,none⟩ u) (some b):=⟨rfl,rfl,rfl,by simp[World.setCell],fun k _ hn=>Below.heap_setCell _ _ _ _ (fun e=>hn (by rw[e]))⟩
theorem grown_setc {b:Nat} {w W:World} (h:w.grownBy W (some b)) {c:Nat} (hc:w.heap.size≤c) (j:Nat) (u:Value):w.grownBy (W.setCell ⟨c,j,none⟩ u) (some b):=
 ⟨h.os,h.tape,h.output,by simpa[World.setCell] using h.size,fun k hk hn=>(Below.heap_setCell _ _ _ _ (by show k≠c;omega)).trans (h.block k hk hn)⟩
theorem grown_put5 {b:Nat} {w W:World} (h:w.grownBy W (some b)) {c:Nat} (hc:w.heap.size≤c) (v0 v1 v2 v3 v4:Value):w.grownBy (put5 W c v0 v1 v2 v3 v4) (some b):=
 grown_setc (grown_setc (grown_setc (grown_setc (grown_setc h hc _ _) hc _ _) hc _ _) hc _ _) hc _ _
theorem below_of_grown {b B:Nat} {w w1:World} (h:w.grownBy w1 (some b)) (hB:B≤b) (hw:B≤w.heap.size):Below B w w1:=
 ⟨h.os,h.tape,h.output,h.size,fun k hk=>h.block k (by omega) (fun e=>by injection e with e;omega)⟩
structure Box5 (w:World) (c:Nat) (v0 v1 v2 v3 v4:Value):Prop where
 c0:w.cell? ⟨c,0,none⟩=some v0
 c1:w.cell? ⟨c,1,none⟩=some v1
 c2:w.cell? ⟨c,2,none⟩=some v2
 c3:w.cell? ⟨c,3,none⟩=some v3
 c4:w.cell? ⟨c,4,none⟩=some v4
 fr:∀ q,q<5→w.frozen? ⟨c,q,none⟩=false
theorem Box5.freed {w:World} {c:Nat} {v0 v1 v2 v3 v4:Value} (h:Box5 w c v0 v1 v2 v3 v4):
  w.frozen? ⟨c,0,none⟩=false∧w.frozen? ⟨c,1,none⟩=false∧w.frozen? ⟨c,2,none⟩=false∧w.frozen? ⟨c,3,none⟩=false∧w.frozen? ⟨c,4,none⟩=false:=
 ⟨h.fr 0 (by omega),h.fr 1 (by omega),h.fr 2 (by omega),h.fr 3 (by omega),h.fr 4 (by omega)⟩
theorem set_same (w:World) (c j:Nat) (u u':Value) (h:w.cell? ⟨c,j,none⟩=some u):(w.setCell ⟨c,j,none⟩ u').cell? ⟨c,j,none⟩=some u':=World.cell?_setCell_same _ _ _ h
theorem set_ne (w:World) (c j i:Nat) (u':Value) (h:j≠i):(w.setCell ⟨c,j,none⟩ u').cell? ⟨c,i,none⟩=w.cell? ⟨c,i,none⟩:=World.cell?_setCell_other _ _ _ _ (fun e=>by injection e with _ e;omega)
theorem Box5.put {w:World} {c:Nat} {u0 u1 u2 u3 u4:Value} (h:Box5 w c u0 u1 u2 u3 u4) (v0 v1 v2 v3 v4:Value):Box5 (put5 w c v0 v1 v2 v3 v4) c v0 v1 v2 v3 v4:=by
 unfold put5;refine⟨?_,?_,?_,?_,?_,fun q hq=>?_⟩
 ·repeat rw[set_ne _ _ _ _ _ (by omega)]
  exact set_same _ _ _ _ _ h.c0
 ·repeat rw[set_ne _ _ _ _ _ (by omega)]
  exact set_same _ _ _ _ _ (by(repeat rw[set_ne _ _ _ _ _ (by omega)]);exact h.c1)
 ·repeat rw[set_ne _ _ _ _ _ (by omega)]
  exact set_same _ _ _ _ _ (by(repeat rw[set_ne _ _ _ _ _ (by omega)]);exact h.c2)
 ·repeat rw[set_ne _ _ _ _ _ (by omega)]
  exact set_same _ _ _ _ _ (by(repeat rw[set_ne _ _ _ _ _ (by omega)]);exact h.c3)
 ·exact set_same _ _ _ _ _ (by(repeat rw[set_ne _ _ _ _ _ (by omega)]);exact h.c4)
 ·simp only[World.frozen?_setCell];exact h.fr q hq
theorem Box5.grown {b c:Nat} {w w':World} {v0 v1 v2 v3 v4:Value} (h:Box5 w c v0 v1 v2 v3 v4) (hg:w.grownBy w' (some b)) (hn:c≠b):Box5 w' c v0 v1 v2 v3 v4:=by
 have hc:c<w.heap.size:=World.block_lt_of_cell? w _ h.c0;have e:w'.heap[c]?=w.heap[c]?:=hg.block c hc (fun e=>hn (by injection e));have k:∀ j,w'.cell? ⟨c,j,none⟩=w.cell? ⟨c,j,none⟩:=fun j=>World.cell?_of_block e
 exact⟨(k _).trans h.c0,(k _).trans h.c1,(k _).trans h.c2,(k _).trans h.c3,(k _).trans h.c4,fun q hq=>(World.frozen?_of_block e).trans (h.fr q hq)⟩
theorem Box5.low {c:Nat} {w w':World} {v0 v1 v2 v3 v4:Value} (h:Box5 w c v0 v1 v2 v3 v4) (hb:Below w.heap.size w w'):Box5 w' c v0 v1 v2 v3 v4:=h.grown (b:=c+1) (grown_below hb) (by omega)
theorem Box5.other {w:World} {c:Nat} {v0 v1 v2 v3 v4:Value} (h:Box5 w c v0 v1 v2 v3 v4) {a:Addr} (ha:a.block≠c) (u:Value):Box5 (w.setCell a u) c v0 v1 v2 v3 v4:=by
 have k:∀ j,(w.setCell a u).cell? ⟨c,j,none⟩=w.cell? ⟨c,j,none⟩:=fun j=>World.cell?_setCell_other _ _ _ _ (fun e=>ha (by rw[e]))
 exact⟨(k _).trans h.c0,(k _).trans h.c1,(k _).trans h.c2,(k _).trans h.c3,(k _).trans h.c4,fun q hq=>(World.frozen?_setCell ..).trans (h.fr q hq)⟩
theorem Box5.new (w:World) (T:TypeId) (v0 v1 v2 v3 v4:Value):Box5 (w.alloc (.cells #[v0,v1,v2,v3,v4] T)) w.heap.size v0 v1 v2 v3 v4:=by
 have k:∀ j u,[v0,v1,v2,v3,v4][j]?=some u→(w.alloc (.cells #[v0,v1,v2,v3,v4] T)).cell? ⟨w.heap.size,j,none⟩=some u:=fun j u h=>by
  have h0:=new_cells w T #[v0,v1,v2,v3,v4] j u h;have hadd:(⟨w.heap.size,0,none⟩:Addr).add j=⟨w.heap.size,j,none⟩:=by unfold Addr.add;split <;> simp_all
  rw[hadd] at h0;exact h0
 refine⟨k 0 _ rfl,k 1 _ rfl,k 2 _ rfl,k 3 _ rfl,k 4 _ rfl,fun q hq=>?_⟩;have h:q=0∨q=1∨q=2∨q=3∨q=4:=by omega
 rcases h with rfl | rfl | rfl | rfl | rfl <;> simp[go_sem]
theorem size_put5 (W:World) (c:Nat) (v0 v1 v2 v3 v4:Value):(put5 W c v0 v1 v2 v3 v4).heap.size=W.heap.size:=by simp[put5,World.setCell]
theorem block_put5 (W:World) (c:Nat) (v0 v1 v2 v3 v4:Value) {k:Nat} (hk:k≠c):(put5 W c v0 v1 v2 v3 v4).heap[k]?=W.heap[k]?:=by
 have e:∀ (W:World) (j:Nat) (u:Value),(W.setCell ⟨c,j,none⟩ u).heap[k]?=W.heap[k]?:=fun W j u=>Below.heap_setCell _ _ _ _ hk
 unfold put5;rw[e,e,e,e,e]
structure FitL (l:List Tok):Prop where
 ok:∀ t∈l,okT t=true
 fit:∀ t∈l,FitT t
 len:l.length≤1000000
def FrX (lo hi:Nat):Nat→Prop:=fun k=>lo≤k∧k<hi
theorem KidsX.leaf (P:Nat→Prop) (w:World) (A:Option Addr) (k n:Int) (nm op:Bs):KidsX P w A (.mk k n nm op []):=by rw[KidsX];exact .inl rfl
theorem KidsX.wide {P Q:Nat→Prop} {w:World} {A:Option Addr} {r:Ex} (h:KidsX P w A r) (hPQ:∀ k,P k→Q k):KidsX Q w A r:=kidsX_of (fun _ _=>rfl) hPQ r A h
theorem KidsX.to {lo hi lo' hi':Nat} {w:World} {A:Option Addr} {r:Ex} (h:KidsX (FrX lo hi) w A r) (h1:lo'≤lo) (h2:hi≤hi'):KidsX (FrX lo' hi') w A r:=h.wide fun _ hk=>⟨Nat.le_trans h1 hk.1,Nat.lt_of_lt_of_le hk.2 h2⟩
theorem KidsX.over {P:Nat→Prop} {w w':World} {A:Option Addr} {r:Ex} (h:KidsX P w A r) (hg:∀ k,P k→w'.heap[k]?=w.heap[k]?):KidsX P w' A r:=
 kidsX_of (fun _ ha=>World.cell?_of_block (hg _ ha)) (fun _ hk=>hk) r A h
theorem KidsX.grownX {b:Nat} {P:Nat→Prop} {w w':World} {A:Option Addr} {r:Ex} (h:KidsX P w A r) (hg:w.grownBy w' (some b)) (hP:∀ k,P k→k<w.heap.size∧k≠b):KidsX P w' A r:=
 h.over fun k hk=>hg.block k (hP k hk).1 (fun e=>(hP k hk).2 (by injection e))
theorem KidsX.put5 {P:Nat→Prop} {w:World} {A:Option Addr} {r:Ex} (h:KidsX P w A r) {c:Nat} (hc:¬ P c) (v0 v1 v2 v3 v4:Value):KidsX P (put5 w c v0 v1 v2 v3 v4) A r:=
 h.over fun _ hk=>block_put5 _ _ _ _ _ _ _ (fun e=>hc (e ▸ hk))
theorem KidsX.allocX {P:Nat→Prop} {w:World} {A:Option Addr} {r:Ex} (h:KidsX P w A r) (hP:∀ k,P k→k<w.heap.size) (o:Obj):KidsX P (w.alloc o) A r:=
 h.over fun k hk=>(Below.alloc (Below.refl w.heap.size w) (Nat.le_refl _) o).block k (hP k hk)
theorem valX_eq (x:Ex) (A:Option Addr) (c:Nat):valX x A c= .agg #[.int .i64 x.kind,.int .i64 x.n,.string ⟨x.name.toArray⟩,.string ⟨x.op.toArray⟩,.slice A x.kids.length c]:=by cases x;rfl
theorem atX_eq {w:World} {a:Addr} {x:Ex} {A:Option Addr} {c:Nat} (h0:w.cell? a=some (.int .i64 x.kind)) (h1:w.cell? ⟨a.block,a.off+1,none⟩=some (.int .i64 x.n)) (h2:w.cell? ⟨a.block,a.off+2,none⟩=some (.string ⟨x.name.toArray⟩))
 (h3:w.cell? ⟨a.block,a.off+3,none⟩=some (.string ⟨x.op.toArray⟩)) (h4:w.cell? ⟨a.block,a.off+4,none⟩=some (.slice A x.kids.length c)):AtX w a x A c:=by cases x;exact⟨h0,h1,h2,h3,h4⟩
theorem new_at (W:World) (T:TypeId) (cs:Array Value) (j:Nat) (u:Value) (h:cs.toList[j]?=some u):(W.alloc (.cells cs T)).cell? ⟨W.heap.size,j,none⟩=some u:=by
 have h0:=new_cells W T cs j u h;have hadd:(⟨W.heap.size,0,none⟩:Addr).add j=⟨W.heap.size,j,none⟩:=by unfold Addr.add;split <;> simp_all
 rw[hadd] at h0;exact h0
theorem kid_one {P:Nat→Prop} {W:World} {x:Ex} {A:Option Addr} {c:Nat} (h:KidsX P W A x) (hP:∀ k,P k→k<W.heap.size) (k n:Int) (nm op:Bs):
  KidsX (fun j=>P j∨j=W.heap.size) (W.alloc (.cells #[.int .i64 x.kind,.int .i64 x.n,.string ⟨x.name.toArray⟩,.string ⟨x.op.toArray⟩,.slice A x.kids.length c] 44)) (some ⟨W.heap.size,0,none⟩) (.mk k n nm op [x]):=by
 rw[KidsX];refine .inr ⟨_,rfl,.inr rfl,?_⟩;rw[KidsXL,KidsXL];have e:(⟨W.heap.size,0,none⟩:Addr).add (0 * 5)=⟨W.heap.size,0,none⟩:=by simp[Addr.add]
 rw[e];exact⟨⟨A,c,atX_eq (new_at _ _ _ 0 _ rfl) (new_at _ _ _ 1 _ rfl) (new_at _ _ _ 2 _ rfl) (new_at _ _ _ 3 _ rfl) (new_at _ _ _ 4 _ rfl),(h.allocX hP _).wide fun _ hk=> .inl hk⟩,trivial⟩
theorem kid_two {P:Nat→Prop} {W:World} {x y:Ex} {A A':Option Addr} {c c':Nat} (h:KidsX P W A x) (h':KidsX P W A' y) (hP:∀ k,P k→k<W.heap.size) (k n:Int) (nm op:Bs):
  KidsX (fun j=>P j∨j=W.heap.size) (W.alloc (.cells #[.int .i64 x.kind,.int .i64 x.n,.string ⟨x.name.toArray⟩,.string ⟨x.op.toArray⟩,.slice A x.kids.length c,.int .i64 y.kind,.int .i64 y.n,.string ⟨y.name.toArray⟩,.string ⟨y.op.toArray⟩,.slice A' y.kids.length c'] 44)) (some ⟨W.heap.size,0,none⟩) (.mk k n nm op [x,y]):=by
 rw[KidsX];refine .inr ⟨_,rfl,.inr rfl,?_⟩;rw[KidsXL,KidsXL,KidsXL];have e:(⟨W.heap.size,0,none⟩:Addr).add (0 * 5)=⟨W.heap.size,0,none⟩:=by simp[Addr.add]
 have e1:(⟨W.heap.size,0,none⟩:Addr).add ((0+1) * 5)=⟨W.heap.size,5,none⟩:=by simp[Addr.add]
 rw[e,e1]
 exact⟨⟨A,c,atX_eq (new_at _ _ _ 0 _ rfl) (new_at _ _ _ 1 _ rfl) (new_at _ _ _ 2 _ rfl) (new_at _ _ _ 3 _ rfl) (new_at _ _ _ 4 _ rfl),(h.allocX hP _).wide fun _ hk=> .inl hk⟩,
  ⟨A',c',atX_eq (new_at _ _ _ 5 _ rfl) (new_at _ _ _ 6 _ rfl) (new_at _ _ _ 7 _ rfl) (new_at _ _ _ 8 _ rfl) (new_at _ _ _ 9 _ rfl),(h'.allocX hP _).wide fun _ hk=> .inl hk⟩,trivial⟩
abbrev zeroX:Obj:= .cells #[.int .i64 0,.int .i64 0,.string ⟨#[]⟩,.string ⟨#[]⟩,.slice none 0 0] 44
theorem one_boxX (w:World) (o:Obj):Below w.heap.size w (w.alloc o):=(Below.refl _ _).alloc (Nat.le_refl _) _
theorem ba_of (l:Bs):∃ X:ByteArray,X.toList=l∧(⟨l.toArray⟩:ByteArray)=X:=⟨⟨l.toArray⟩,by rw[toList_data],rfl⟩
theorem mayL_snoc (x:Ex) (d:Nat):∀ l:List Ex,mayL (l++[x]) d=(mayL l d && mayX x d)
 | []=>by rw[List.nil_append,mayL,mayL,mayL];simp
 | y::l=>by rw[List.cons_append,mayL,mayL,mayL_snoc x d l,Bool.and_assoc]
theorem mayL_take {l:List Ex} {k d:Nat} {x:Ex} (h:l[k]?=some x) (hp:mayL (l.take k) d=true):mayL (l.take (k+1)) d=mayX x d:=by
 obtain⟨hk,e⟩:=List.getElem?_eq_some_iff.1 h;rw[List.take_succ_eq_append_getElem hk,e,mayL_snoc,hp,Bool.true_and]
theorem mayL_not {l:List Ex} {k d:Nat} {x:Ex} (h:l[k]?=some x) (hx:mayX x d=false):mayL l d=false:=by
 rw[Bool.eq_false_iff];intro hl;have:=mayL_all hl x (List.mem_of_getElem? h);rw[hx] at this;cases this
theorem rmayX_any (r:Ex):∀ (A:Option Addr) (c d:Nat) (w:World),KidsX (LtX w.heap.size) w A r→d≤64→nmX r≤1000000→
  Calls Tryz.prog 71 #[valX r A c,.int .i64 d] w fun e w'=>e= .returned (.bool (mayX r d))∧Below w.heap.size w w':=by
 induction r using Ex.ind with
 | h k n nm op ks ih=>
   intro A c d w hk hd hnm;obtain⟨v,hv⟩:∃ v,v=mayX (Ex.mk k n nm op ks) d:=⟨_,rfl⟩;rw[←hv];rw[mayX] at hv;unfold shapeX at hv;simp only[valX];obtain⟨X,rfl,eX⟩:=ba_of nm;rw[nmX] at hnm
   have hXs:X.size≤4611686018427387904:=by
    have:X.toList.length=X.size:=by rw[toList_data];exact len_data X
    omega
   have HNM:=Lib.hid hnm;clear hnm;obtain⟨Y,rfl,eY⟩:=ba_of op;rw[eX,eY];have KN:Hid (∀ w,Calls Tryz.prog 60 #[.string X] w fun e w'=>e= .returned (.bool (isName X.toList))∧w=w'):=Lib.hid fun w=>by rw[toList_data];exact rname_any X hXs w
   have KS:Hid (∀ w,Calls Tryz.prog 96 #[.string Y] w fun e w'=>e= .returned (.int .i64 (strong Y.toList))∧w=w'):=Lib.hid fun w=>by rw[toList_data];exact strengthX_any Y w
   obtain⟨b1,hb1⟩:∃ b,b=isName X.toList:=⟨_,rfl⟩;obtain⟨b2,hb2⟩:∃ b,b=strong Y.toList:=⟨_,rfl⟩;rw[←hb1] at KN hv;rw[←hb2] at KS hv;clear hb1 hb2 eX eY hXs;obtain⟨m,hm⟩:∃ m,m=ks.length:=⟨_,rfl⟩;rw[←hm] at hv ⊢;have he:ks.isEmpty=decide (m=0):=by rw[hm];cases ks <;> simp
   rw[he] at hv;have HM:=Lib.hid hm;have HK:=Lib.hid hk;have HI:=Lib.hid ih;clear hk ih hm he;by_cases k0:k=0
   ·subst k0
    by_cases hx:X.toList=[]
    case neg=>
     have HX:Hid (v=false):=Lib.hid (by rw[hv];simp[hx]);clear hv;go_enter Tryz.func71,Tryz.ntmps71;go_wp2_with (first | (go_at_call 60;((with_reducible refine(KN.out _).mono ?_));rintro e w' ⟨rfl,rfl⟩) | (go_at_call 96;((with_reducible refine(KS.out _).mono ?_));rintro e w' ⟨rfl,rfl⟩));go_ret;exact⟨ret_bool HX.out.symm,two_boxesX _ _ _⟩
    by_cases hy:Y.toList=[]
    case neg=>
     have HX:Hid (v=false):=Lib.hid (by rw[hv];simp[hy]);clear hv;go_enter Tryz.func71,Tryz.ntmps71;go_wp2_with (first | (go_at_call 60;((with_reducible refine(KN.out _).mono ?_));rintro e w' ⟨rfl,rfl⟩) | (go_at_call 96;((with_reducible refine(KS.out _).mono ?_));rintro e w' ⟨rfl,rfl⟩));go_ret;exact⟨ret_bool HX.out.symm,two_boxesX _ _ _⟩
    by_cases hm0:m=0
    case neg=>
     have HX:Hid (v=false):=Lib.hid (by rw[hv];simp[hm0]);clear hv;go_enter Tryz.func71,Tryz.ntmps71;go_wp2_with (first | (go_at_call 60;((with_reducible refine(KN.out _).mono ?_));rintro e w' ⟨rfl,rfl⟩) | (go_at_call 96;((with_reducible refine(KS.out _).mono ?_));rintro e w' ⟨rfl,rfl⟩));go_ret;exact⟨ret_bool HX.out.symm,two_boxesX _ _ _⟩
    subst hm0;by_cases hn:0≤n
    case neg=>
     have HX:Hid (v=false):=Lib.hid (by rw[hv];simp[hn]);clear hv;go_enter Tryz.func71,Tryz.ntmps71;go_wp2_with (first | (go_at_call 60;((with_reducible refine(KN.out _).mono ?_));rintro e w' ⟨rfl,rfl⟩) | (go_at_call 96;((with_reducible refine(KS.out _).mono ?_));rintro e w' ⟨rfl,rfl⟩));go_ret;exact⟨ret_bool HX.out.symm,two_boxesX _ _ _⟩
    have HX:Hid (∀ b,mayL ks (d+1)=b→v=b):=Lib.hid (by rintro b rfl;rw[hv];simp[hx,hy,hn]);clear hv;obtain⟨o1,ho1⟩:∃ o:Obj,o= .cells #[.int .i64 0,.int .i64 n,.string X,.string Y,.slice A 0 c] 44:=⟨_,rfl⟩;obtain⟨o2,ho2⟩:∃ o:Obj,o= .cells #[.int .i64 0,.int .i64 n,.string ⟨#[]⟩,.string ⟨#[]⟩,.slice none 0 0] 44:=⟨_,rfl⟩;have hbo:Below w.heap.size w ((w.alloc o1).alloc o2):=two_boxesX w o1 o2;have hc5:((w.alloc o1).alloc o2).cell? ⟨w.heap.size,4,none⟩=some (.slice A 0 c):=by rw[ho1];simp[go_sem]
    have hsz:((w.alloc o1).alloc o2).heap.size=w.heap.size+2:=by simp
    obtain⟨W2,hW2⟩:∃ W2,W2=(w.alloc o1).alloc o2:=⟨_,rfl⟩;have HW2:Hid (W2=(w.alloc (.cells #[.int .i64 0,.int .i64 n,.string X,.string Y,.slice A 0 c] 44)).alloc (.cells #[.int .i64 0,.int .i64 n,.string ⟨#[]⟩,.string ⟨#[]⟩,.slice none 0 0] 44)):=Lib.hid (by rw[hW2,ho1,ho2]);rw[←hW2] at hbo hc5 hsz;have HBO:=Lib.hid hbo;have HC5:=Lib.hid hc5;clear ho1 ho2 hW2 hbo hc5;go_enter Tryz.func71,Tryz.ntmps71;go_wp2_with (first | (go_at_call 60;((with_reducible refine(KN.out _).mono ?_));rintro e w' ⟨rfl,rfl⟩) | (go_at_call 96;((with_reducible refine(KS.out _).mono ?_));rintro e w' ⟨rfl,rfl⟩))
    go_loopw [7] (fun i wr=>∃ j:Nat,j≤0∧i= .int .i64 j∧mayL (ks.take j) (d+1)=true∧Below (w.heap.size+2) W2 wr) (fun i _=>0 - (intOf i).toNat)
    case atStart=>exact⟨0,by omega,rfl,by rw[List.take_zero,mayL],by rw[HW2.out];exact Below.refl _ _⟩
    case round=>
     obtain⟨j,hj,rfl,ht,hb1⟩:=hrel;have hb:Below w.heap.size w wr:=HBO.out.trans (hb1.mono (by omega));have c5:wr.cell? ⟨w.heap.size,4,none⟩=some (.slice A 0 c):=(hb1.cell (p:=⟨w.heap.size,4,none⟩) (by show w.heap.size<w.heap.size+2;omega)).trans HC5.out;have HB1:=Lib.hid hb1;have HT:=Lib.hid ht;clear ht hb1;by_cases a:j<0
     ·exact absurd a (Nat.not_lt_zero j)
     ·have HX2:Hid (v=true):=by
       apply Lib.hid;apply HX.out;have:=HT.out;rw[List.take_of_length_le (by have:=HM.out;omega)] at this;exact this
      go_wp2;go_ret;exact⟨ret_bool HX2.out.symm,hb⟩
   by_cases k1:k=1
   ·subst k1
    by_cases hn:n=0
    case neg=>
     have HX:Hid (v=false):=Lib.hid (by rw[hv];simp[hn]);clear hv;go_enter Tryz.func71,Tryz.ntmps71;go_wp2_with (first | (go_at_call 60;((with_reducible refine(KN.out _).mono ?_));rintro e w' ⟨rfl,rfl⟩) | (go_at_call 96;((with_reducible refine(KS.out _).mono ?_));rintro e w' ⟨rfl,rfl⟩));go_ret;exact⟨ret_bool HX.out.symm,two_boxesX _ _ _⟩
    subst hn;by_cases hy:Y.toList=[]
    case neg=>
     have HX:Hid (v=false):=Lib.hid (by rw[hv];simp[hy]);clear hv;go_enter Tryz.func71,Tryz.ntmps71;go_wp2_with (first | (go_at_call 60;((with_reducible refine(KN.out _).mono ?_));rintro e w' ⟨rfl,rfl⟩) | (go_at_call 96;((with_reducible refine(KS.out _).mono ?_));rintro e w' ⟨rfl,rfl⟩));go_ret;exact⟨ret_bool HX.out.symm,two_boxesX _ _ _⟩
    by_cases hm0:m=0
    case neg=>
     have HX:Hid (v=false):=Lib.hid (by rw[hv];simp[hm0]);clear hv;go_enter Tryz.func71,Tryz.ntmps71;go_wp2_with (first | (go_at_call 60;((with_reducible refine(KN.out _).mono ?_));rintro e w' ⟨rfl,rfl⟩) | (go_at_call 96;((with_reducible refine(KS.out _).mono ?_));rintro e w' ⟨rfl,rfl⟩));go_ret;exact⟨ret_bool HX.out.symm,two_boxesX _ _ _⟩
    subst hm0;by_cases hb:b1=true
    case neg=>
     have HX:Hid (v=false):=Lib.hid (by rw[hv];simp[hb]);clear hv;go_enter Tryz.func71,Tryz.ntmps71;go_wp2_with (first | (go_at_call 60;((with_reducible refine(KN.out _).mono ?_));rintro e w' ⟨rfl,rfl⟩) | (go_at_call 96;((with_reducible refine(KS.out _).mono ?_));rintro e w' ⟨rfl,rfl⟩));go_ret;exact⟨ret_bool HX.out.symm,two_boxesX _ _ _⟩
    subst hb;have HX:Hid (∀ b,mayL ks (d+1)=b→v=b):=Lib.hid (by rintro b rfl;rw[hv];simp[hy]);clear hv;obtain⟨o1,ho1⟩:∃ o:Obj,o= .cells #[.int .i64 1,.int .i64 0,.string X,.string Y,.slice A 0 c] 44:=⟨_,rfl⟩;obtain⟨o2,ho2⟩:∃ o:Obj,o= .cells #[.int .i64 1,.int .i64 0,.string X,.string ⟨#[]⟩,.slice none 0 0] 44:=⟨_,rfl⟩;have hbo:Below w.heap.size w ((w.alloc o1).alloc o2):=two_boxesX w o1 o2;have hc5:((w.alloc o1).alloc o2).cell? ⟨w.heap.size,4,none⟩=some (.slice A 0 c):=by rw[ho1];simp[go_sem]
    have hsz:((w.alloc o1).alloc o2).heap.size=w.heap.size+2:=by simp
    obtain⟨W2,hW2⟩:∃ W2,W2=(w.alloc o1).alloc o2:=⟨_,rfl⟩;have HW2:Hid (W2=(w.alloc (.cells #[.int .i64 1,.int .i64 0,.string X,.string Y,.slice A 0 c] 44)).alloc (.cells #[.int .i64 1,.int .i64 0,.string X,.string ⟨#[]⟩,.slice none 0 0] 44)):=Lib.hid (by rw[hW2,ho1,ho2]);rw[←hW2] at hbo hc5 hsz;have HBO:=Lib.hid hbo;have HC5:=Lib.hid hc5;clear ho1 ho2 hW2 hbo hc5;go_enter Tryz.func71,Tryz.ntmps71;go_wp2_with (first | (go_at_call 60;((with_reducible refine(KN.out _).mono ?_));rintro e w' ⟨rfl,rfl⟩) | (go_at_call 96;((with_reducible refine(KS.out _).mono ?_));rintro e w' ⟨rfl,rfl⟩))
    go_loopw [7] (fun i wr=>∃ j:Nat,j≤0∧i= .int .i64 j∧mayL (ks.take j) (d+1)=true∧Below (w.heap.size+2) W2 wr) (fun i _=>0 - (intOf i).toNat)
    case atStart=>exact⟨0,by omega,rfl,by rw[List.take_zero,mayL],by rw[HW2.out];exact Below.refl _ _⟩
    case round=>
     obtain⟨j,hj,rfl,ht,hb1⟩:=hrel;have hb:Below w.heap.size w wr:=HBO.out.trans (hb1.mono (by omega));have c5:wr.cell? ⟨w.heap.size,4,none⟩=some (.slice A 0 c):=(hb1.cell (p:=⟨w.heap.size,4,none⟩) (by show w.heap.size<w.heap.size+2;omega)).trans HC5.out;have HB1:=Lib.hid hb1;have HT:=Lib.hid ht;clear ht hb1;by_cases a:j<0
     ·exact absurd a (Nat.not_lt_zero j)
     ·have HX2:Hid (v=true):=by
       apply Lib.hid;apply HX.out;have:=HT.out;rw[List.take_of_length_le (by have:=HM.out;omega)] at this;exact this
      go_wp2;go_ret;exact⟨ret_bool HX2.out.symm,hb⟩
   by_cases k2:k=2
   ·subst k2
    by_cases hn:n=0
    case neg=>
     have HX:Hid (v=false):=Lib.hid (by rw[hv];simp[hn]);clear hv;go_enter Tryz.func71,Tryz.ntmps71;go_wp2_with (first | (go_at_call 60;((with_reducible refine(KN.out _).mono ?_));rintro e w' ⟨rfl,rfl⟩) | (go_at_call 96;((with_reducible refine(KS.out _).mono ?_));rintro e w' ⟨rfl,rfl⟩));go_ret;exact⟨ret_bool HX.out.symm,two_boxesX _ _ _⟩
    subst hn;by_cases hx:X.toList=[]
    case neg=>
     have HX:Hid (v=false):=Lib.hid (by rw[hv];simp[hx]);clear hv;go_enter Tryz.func71,Tryz.ntmps71;go_wp2_with (first | (go_at_call 60;((with_reducible refine(KN.out _).mono ?_));rintro e w' ⟨rfl,rfl⟩) | (go_at_call 96;((with_reducible refine(KS.out _).mono ?_));rintro e w' ⟨rfl,rfl⟩));go_ret;exact⟨ret_bool HX.out.symm,two_boxesX _ _ _⟩
    by_cases hy:Y.toList=[]
    case neg=>
     have HX:Hid (v=false):=Lib.hid (by rw[hv];simp[hy]);clear hv;go_enter Tryz.func71,Tryz.ntmps71;go_wp2_with (first | (go_at_call 60;((with_reducible refine(KN.out _).mono ?_));rintro e w' ⟨rfl,rfl⟩) | (go_at_call 96;((with_reducible refine(KS.out _).mono ?_));rintro e w' ⟨rfl,rfl⟩));go_ret;exact⟨ret_bool HX.out.symm,two_boxesX _ _ _⟩
    by_cases hm0:m=1
    case neg=>
     have HX:Hid (v=false):=Lib.hid (by rw[hv];simp[hm0]);clear hv;go_enter Tryz.func71,Tryz.ntmps71;go_wp2_with (first | (go_at_call 60;((with_reducible refine(KN.out _).mono ?_));rintro e w' ⟨rfl,rfl⟩) | (go_at_call 96;((with_reducible refine(KS.out _).mono ?_));rintro e w' ⟨rfl,rfl⟩));go_ret;exact⟨ret_bool HX.out.symm,two_boxesX _ _ _⟩
    subst hm0;by_cases hd64:d<64
    case neg=>
     have HX:Hid (v=false):=Lib.hid (by rw[hv];simp[hd64]);clear hv;go_enter Tryz.func71,Tryz.ntmps71;go_wp2_with (first | (go_at_call 60;((with_reducible refine(KN.out _).mono ?_));rintro e w' ⟨rfl,rfl⟩) | (go_at_call 96;((with_reducible refine(KS.out _).mono ?_));rintro e w' ⟨rfl,rfl⟩));go_ret;exact⟨ret_bool HX.out.symm,two_boxesX _ _ _⟩
    have HX:Hid (∀ b,mayL ks (d+1)=b→v=b):=Lib.hid (by rintro b rfl;rw[hv];simp[hx,hy,hd64]);clear hv;obtain⟨o1,ho1⟩:∃ o:Obj,o= .cells #[.int .i64 2,.int .i64 0,.string X,.string Y,.slice A 1 c] 44:=⟨_,rfl⟩;obtain⟨o2,ho2⟩:∃ o:Obj,o= .cells #[.int .i64 2,.int .i64 0,.string ⟨#[]⟩,.string ⟨#[]⟩,.slice none 0 0] 44:=⟨_,rfl⟩;have hbo:Below w.heap.size w ((w.alloc o1).alloc o2):=two_boxesX w o1 o2;have hc5:((w.alloc o1).alloc o2).cell? ⟨w.heap.size,4,none⟩=some (.slice A 1 c):=by rw[ho1];simp[go_sem]
    have hsz:((w.alloc o1).alloc o2).heap.size=w.heap.size+2:=by simp
    obtain⟨W2,hW2⟩:∃ W2,W2=(w.alloc o1).alloc o2:=⟨_,rfl⟩;have HW2:Hid (W2=(w.alloc (.cells #[.int .i64 2,.int .i64 0,.string X,.string Y,.slice A 1 c] 44)).alloc (.cells #[.int .i64 2,.int .i64 0,.string ⟨#[]⟩,.string ⟨#[]⟩,.slice none 0 0] 44)):=Lib.hid (by rw[hW2,ho1,ho2]);rw[←hW2] at hbo hc5 hsz;have HBO:=Lib.hid hbo;have HC5:=Lib.hid hc5;clear ho1 ho2 hW2 hbo hc5;go_enter Tryz.func71,Tryz.ntmps71;go_wp2_with (first | (go_at_call 60;((with_reducible refine(KN.out _).mono ?_));rintro e w' ⟨rfl,rfl⟩) | (go_at_call 96;((with_reducible refine(KS.out _).mono ?_));rintro e w' ⟨rfl,rfl⟩))
    go_loopw [7] (fun i wr=>∃ j:Nat,j≤1∧i= .int .i64 j∧mayL (ks.take j) (d+1)=true∧Below (w.heap.size+2) W2 wr) (fun i _=>1 - (intOf i).toNat)
    case atStart=>exact⟨0,by omega,rfl,by rw[List.take_zero,mayL],by rw[HW2.out];exact Below.refl _ _⟩
    case round=>
     obtain⟨j,hj,rfl,ht,hb1⟩:=hrel;have hb:Below w.heap.size w wr:=HBO.out.trans (hb1.mono (by omega));have c5:wr.cell? ⟨w.heap.size,4,none⟩=some (.slice A 1 c):=(hb1.cell (p:=⟨w.heap.size,4,none⟩) (by show w.heap.size<w.heap.size+2;omega)).trans HC5.out;have HB1:=Lib.hid hb1;have HT:=Lib.hid ht;clear ht hb1;by_cases a:j<1
     ·obtain⟨r,hr⟩:=getX_of_lt HM.out a
      obtain⟨ad,B,b,rfl,hp,h9,hkr⟩:=kidX_at HK.out hb hr;have hmem:=List.mem_of_getElem? hr
      have K:∀ w2,Below w.heap.size w w2→Calls Tryz.prog 71 #[valX r B b,.int .i64 ((d:Int)+1)] w2 fun e w'=>e= .returned (.bool (mayX r (d+1)))∧Below w2.heap.size w2 w':=fun w2 h2=>
       HI.out r hmem B b (d+1) w2 (hkr.next h2) (by omega) (by have:=HNM.out;have:=nmXL_mem hmem;omega)
      obtain⟨v2,hv2⟩:∃ v2,v2=mayX r (d+1):=⟨_,rfl⟩;rw[←hv2] at K;have HV2:=Lib.hid hv2;have HR:=Lib.hid hr;clear hr hv2 hkr hmem;obtain⟨k',n',nm',op',ks1⟩:=r;simp only[valX] at K;obtain⟨c0,c1,c2,c3,c4⟩:=h9;generalize (⟨nm'.toArray⟩:ByteArray)=M1 at K c2;generalize (⟨op'.toArray⟩:ByteArray)=M2 at K c3;obtain⟨l1,hl1⟩:∃ l,l=ks1.length:=⟨_,rfl⟩;rw[←hl1] at K c4;have HKC:=Lib.hid K;clear K hl1
      cases v2 with
      | true=>
        have HT2:Hid (mayL (ks.take (j+1)) (d+1)=true):=Lib.hid (by rw[mayL_take HR.out HT.out];exact HV2.out.symm);go_wp2_with (go_at_call 71;((with_reducible refine(HKC.out _ hb).mono ?_));rintro e w' ⟨rfl,hb2⟩)
        go_roundw
        case rel=>exact⟨j+1,by omega,by go_num,HT2.out,HB1.out.trans (hb2.mono (by have:=HB1.out.size;omega))⟩
        case measure=>simp[intOf];omega
      | false=>
        have HX2:Hid (v=false):=Lib.hid (HX.out _ (mayL_not HR.out HV2.out.symm));go_wp2_with (go_at_call 71;((with_reducible refine(HKC.out _ hb).mono ?_));rintro e w' ⟨rfl,hb2⟩);go_ret;exact⟨ret_bool HX2.out.symm,hb.trans (hb2.mono hb.size)⟩
     ·have HX2:Hid (v=true):=by
       apply Lib.hid;apply HX.out;have:=HT.out;rw[List.take_of_length_le (by have:=HM.out;omega)] at this;exact this
      go_wp2;go_ret;exact⟨ret_bool HX2.out.symm,hb⟩
   by_cases k3:k=3
   ·subst k3
    by_cases hn:n=0
    case neg=>
     have HX:Hid (v=false):=Lib.hid (by rw[hv];simp[hn]);clear hv;go_enter Tryz.func71,Tryz.ntmps71;go_wp2_with (first | (go_at_call 60;((with_reducible refine(KN.out _).mono ?_));rintro e w' ⟨rfl,rfl⟩) | (go_at_call 96;((with_reducible refine(KS.out _).mono ?_));rintro e w' ⟨rfl,rfl⟩));go_ret;exact⟨ret_bool HX.out.symm,two_boxesX _ _ _⟩
    subst hn;by_cases hx:X.toList=[]
    case neg=>
     have HX:Hid (v=false):=Lib.hid (by rw[hv];simp[hx]);clear hv;go_enter Tryz.func71,Tryz.ntmps71;go_wp2_with (first | (go_at_call 60;((with_reducible refine(KN.out _).mono ?_));rintro e w' ⟨rfl,rfl⟩) | (go_at_call 96;((with_reducible refine(KS.out _).mono ?_));rintro e w' ⟨rfl,rfl⟩));go_ret;exact⟨ret_bool HX.out.symm,two_boxesX _ _ _⟩
    by_cases hy:Y.toList=[]
    case neg=>
     have HX:Hid (v=false):=Lib.hid (by rw[hv];simp[hy]);clear hv;go_enter Tryz.func71,Tryz.ntmps71;go_wp2_with (first | (go_at_call 60;((with_reducible refine(KN.out _).mono ?_));rintro e w' ⟨rfl,rfl⟩) | (go_at_call 96;((with_reducible refine(KS.out _).mono ?_));rintro e w' ⟨rfl,rfl⟩));go_ret;exact⟨ret_bool HX.out.symm,two_boxesX _ _ _⟩
    by_cases hm0:m=1
    case neg=>
     have HX:Hid (v=false):=Lib.hid (by rw[hv];simp[hm0]);clear hv;go_enter Tryz.func71,Tryz.ntmps71;go_wp2_with (first | (go_at_call 60;((with_reducible refine(KN.out _).mono ?_));rintro e w' ⟨rfl,rfl⟩) | (go_at_call 96;((with_reducible refine(KS.out _).mono ?_));rintro e w' ⟨rfl,rfl⟩));go_ret;exact⟨ret_bool HX.out.symm,two_boxesX _ _ _⟩
    subst hm0;by_cases hd64:d<64
    case neg=>
     have HX:Hid (v=false):=Lib.hid (by rw[hv];simp[hd64]);clear hv;go_enter Tryz.func71,Tryz.ntmps71;go_wp2_with (first | (go_at_call 60;((with_reducible refine(KN.out _).mono ?_));rintro e w' ⟨rfl,rfl⟩) | (go_at_call 96;((with_reducible refine(KS.out _).mono ?_));rintro e w' ⟨rfl,rfl⟩));go_ret;exact⟨ret_bool HX.out.symm,two_boxesX _ _ _⟩
    have HX:Hid (∀ b,mayL ks (d+1)=b→v=b):=Lib.hid (by rintro b rfl;rw[hv];simp[hx,hy,hd64]);clear hv;obtain⟨o1,ho1⟩:∃ o:Obj,o= .cells #[.int .i64 3,.int .i64 0,.string X,.string Y,.slice A 1 c] 44:=⟨_,rfl⟩;obtain⟨o2,ho2⟩:∃ o:Obj,o= .cells #[.int .i64 3,.int .i64 0,.string ⟨#[]⟩,.string ⟨#[]⟩,.slice none 0 0] 44:=⟨_,rfl⟩;have hbo:Below w.heap.size w ((w.alloc o1).alloc o2):=two_boxesX w o1 o2;have hc5:((w.alloc o1).alloc o2).cell? ⟨w.heap.size,4,none⟩=some (.slice A 1 c):=by rw[ho1];simp[go_sem]
    have hsz:((w.alloc o1).alloc o2).heap.size=w.heap.size+2:=by simp
    obtain⟨W2,hW2⟩:∃ W2,W2=(w.alloc o1).alloc o2:=⟨_,rfl⟩;have HW2:Hid (W2=(w.alloc (.cells #[.int .i64 3,.int .i64 0,.string X,.string Y,.slice A 1 c] 44)).alloc (.cells #[.int .i64 3,.int .i64 0,.string ⟨#[]⟩,.string ⟨#[]⟩,.slice none 0 0] 44)):=Lib.hid (by rw[hW2,ho1,ho2]);rw[←hW2] at hbo hc5 hsz;have HBO:=Lib.hid hbo;have HC5:=Lib.hid hc5;clear ho1 ho2 hW2 hbo hc5;go_enter Tryz.func71,Tryz.ntmps71;go_wp2_with (first | (go_at_call 60;((with_reducible refine(KN.out _).mono ?_));rintro e w' ⟨rfl,rfl⟩) | (go_at_call 96;((with_reducible refine(KS.out _).mono ?_));rintro e w' ⟨rfl,rfl⟩))
    go_loopw [7] (fun i wr=>∃ j:Nat,j≤1∧i= .int .i64 j∧mayL (ks.take j) (d+1)=true∧Below (w.heap.size+2) W2 wr) (fun i _=>1 - (intOf i).toNat)
    case atStart=>exact⟨0,by omega,rfl,by rw[List.take_zero,mayL],by rw[HW2.out];exact Below.refl _ _⟩
    case round=>
     obtain⟨j,hj,rfl,ht,hb1⟩:=hrel;have hb:Below w.heap.size w wr:=HBO.out.trans (hb1.mono (by omega));have c5:wr.cell? ⟨w.heap.size,4,none⟩=some (.slice A 1 c):=(hb1.cell (p:=⟨w.heap.size,4,none⟩) (by show w.heap.size<w.heap.size+2;omega)).trans HC5.out;have HB1:=Lib.hid hb1;have HT:=Lib.hid ht;clear ht hb1;by_cases a:j<1
     ·obtain⟨r,hr⟩:=getX_of_lt HM.out a
      obtain⟨ad,B,b,rfl,hp,h9,hkr⟩:=kidX_at HK.out hb hr;have hmem:=List.mem_of_getElem? hr
      have K:∀ w2,Below w.heap.size w w2→Calls Tryz.prog 71 #[valX r B b,.int .i64 ((d:Int)+1)] w2 fun e w'=>e= .returned (.bool (mayX r (d+1)))∧Below w2.heap.size w2 w':=fun w2 h2=>
       HI.out r hmem B b (d+1) w2 (hkr.next h2) (by omega) (by have:=HNM.out;have:=nmXL_mem hmem;omega)
      obtain⟨v2,hv2⟩:∃ v2,v2=mayX r (d+1):=⟨_,rfl⟩;rw[←hv2] at K;have HV2:=Lib.hid hv2;have HR:=Lib.hid hr;clear hr hv2 hkr hmem;obtain⟨k',n',nm',op',ks1⟩:=r;simp only[valX] at K;obtain⟨c0,c1,c2,c3,c4⟩:=h9;generalize (⟨nm'.toArray⟩:ByteArray)=M1 at K c2;generalize (⟨op'.toArray⟩:ByteArray)=M2 at K c3;obtain⟨l1,hl1⟩:∃ l,l=ks1.length:=⟨_,rfl⟩;rw[←hl1] at K c4;have HKC:=Lib.hid K;clear K hl1
      cases v2 with
      | true=>
        have HT2:Hid (mayL (ks.take (j+1)) (d+1)=true):=Lib.hid (by rw[mayL_take HR.out HT.out];exact HV2.out.symm);go_wp2_with (go_at_call 71;((with_reducible refine(HKC.out _ hb).mono ?_));rintro e w' ⟨rfl,hb2⟩)
        go_roundw
        case rel=>exact⟨j+1,by omega,by go_num,HT2.out,HB1.out.trans (hb2.mono (by have:=HB1.out.size;omega))⟩
        case measure=>simp[intOf];omega
      | false=>
        have HX2:Hid (v=false):=Lib.hid (HX.out _ (mayL_not HR.out HV2.out.symm));go_wp2_with (go_at_call 71;((with_reducible refine(HKC.out _ hb).mono ?_));rintro e w' ⟨rfl,hb2⟩);go_ret;exact⟨ret_bool HX2.out.symm,hb.trans (hb2.mono hb.size)⟩
     ·have HX2:Hid (v=true):=by
       apply Lib.hid;apply HX.out;have:=HT.out;rw[List.take_of_length_le (by have:=HM.out;omega)] at this;exact this
      go_wp2;go_ret;exact⟨ret_bool HX2.out.symm,hb⟩
   by_cases k4:k=4
   ·subst k4
    by_cases hn:n=0
    case neg=>
     have HX:Hid (v=false):=Lib.hid (by rw[hv];simp[hn]);clear hv;go_enter Tryz.func71,Tryz.ntmps71;go_wp2_with (first | (go_at_call 60;((with_reducible refine(KN.out _).mono ?_));rintro e w' ⟨rfl,rfl⟩) | (go_at_call 96;((with_reducible refine(KS.out _).mono ?_));rintro e w' ⟨rfl,rfl⟩));go_ret;exact⟨ret_bool HX.out.symm,two_boxesX _ _ _⟩
    subst hn;by_cases hx:X.toList=[]
    case neg=>
     have HX:Hid (v=false):=Lib.hid (by rw[hv];simp[hx]);clear hv;go_enter Tryz.func71,Tryz.ntmps71;go_wp2_with (first | (go_at_call 60;((with_reducible refine(KN.out _).mono ?_));rintro e w' ⟨rfl,rfl⟩) | (go_at_call 96;((with_reducible refine(KS.out _).mono ?_));rintro e w' ⟨rfl,rfl⟩));go_ret;exact⟨ret_bool HX.out.symm,two_boxesX _ _ _⟩
    by_cases hm0:m=2
    case neg=>
     have HX:Hid (v=false):=Lib.hid (by rw[hv];simp[hm0]);clear hv;go_enter Tryz.func71,Tryz.ntmps71;go_wp2_with (first | (go_at_call 60;((with_reducible refine(KN.out _).mono ?_));rintro e w' ⟨rfl,rfl⟩) | (go_at_call 96;((with_reducible refine(KS.out _).mono ?_));rintro e w' ⟨rfl,rfl⟩));go_ret;exact⟨ret_bool HX.out.symm,two_boxesX _ _ _⟩
    subst hm0;by_cases hb:¬ b2=0
    case neg=>
     obtain rfl:b2=0:=by omega
     have HX:Hid (v=false):=Lib.hid (by rw[hv];simp);clear hv;go_enter Tryz.func71,Tryz.ntmps71;go_wp2_with (first | (go_at_call 60;((with_reducible refine(KN.out _).mono ?_));rintro e w' ⟨rfl,rfl⟩) | (go_at_call 96;((with_reducible refine(KS.out _).mono ?_));rintro e w' ⟨rfl,rfl⟩));go_ret;exact⟨ret_bool HX.out.symm,two_boxesX _ _ _⟩
    have hb3:((b2:Int)==0)=false:=by simpa using hb
    by_cases hd64:d<64
    case neg=>
     have HX:Hid (v=false):=Lib.hid (by rw[hv];simp[hd64]);clear hv;go_enter Tryz.func71,Tryz.ntmps71;go_wp2_with (first | (go_at_call 60;((with_reducible refine(KN.out _).mono ?_));rintro e w' ⟨rfl,rfl⟩) | (go_at_call 96;((with_reducible refine(KS.out _).mono ?_));rintro e w' ⟨rfl,rfl⟩));go_ret;exact⟨ret_bool HX.out.symm,two_boxesX _ _ _⟩
    have HX:Hid (∀ b,mayL ks (d+1)=b→v=b):=Lib.hid (by rintro b rfl;rw[hv];simp[hx,hb,hd64]);clear hv;obtain⟨o1,ho1⟩:∃ o:Obj,o= .cells #[.int .i64 4,.int .i64 0,.string X,.string Y,.slice A 2 c] 44:=⟨_,rfl⟩;obtain⟨o2,ho2⟩:∃ o:Obj,o= .cells #[.int .i64 4,.int .i64 0,.string ⟨#[]⟩,.string Y,.slice none 0 0] 44:=⟨_,rfl⟩;have hbo:Below w.heap.size w ((w.alloc o1).alloc o2):=two_boxesX w o1 o2;have hc5:((w.alloc o1).alloc o2).cell? ⟨w.heap.size,4,none⟩=some (.slice A 2 c):=by rw[ho1];simp[go_sem]
    have hsz:((w.alloc o1).alloc o2).heap.size=w.heap.size+2:=by simp
    obtain⟨W2,hW2⟩:∃ W2,W2=(w.alloc o1).alloc o2:=⟨_,rfl⟩;have HW2:Hid (W2=(w.alloc (.cells #[.int .i64 4,.int .i64 0,.string X,.string Y,.slice A 2 c] 44)).alloc (.cells #[.int .i64 4,.int .i64 0,.string ⟨#[]⟩,.string Y,.slice none 0 0] 44)):=Lib.hid (by rw[hW2,ho1,ho2]);rw[←hW2] at hbo hc5 hsz;have HBO:=Lib.hid hbo;have HC5:=Lib.hid hc5;clear ho1 ho2 hW2 hbo hc5;go_enter Tryz.func71,Tryz.ntmps71;go_wp2_with (first | (go_at_call 60;((with_reducible refine(KN.out _).mono ?_));rintro e w' ⟨rfl,rfl⟩) | (go_at_call 96;((with_reducible refine(KS.out _).mono ?_));rintro e w' ⟨rfl,rfl⟩))
    go_loopw [7] (fun i wr=>∃ j:Nat,j≤2∧i= .int .i64 j∧mayL (ks.take j) (d+1)=true∧Below (w.heap.size+2) W2 wr) (fun i _=>2 - (intOf i).toNat)
    case atStart=>exact⟨0,by omega,rfl,by rw[List.take_zero,mayL],by rw[HW2.out];exact Below.refl _ _⟩
    case round=>
     obtain⟨j,hj,rfl,ht,hb1⟩:=hrel;have hb:Below w.heap.size w wr:=HBO.out.trans (hb1.mono (by omega));have c5:wr.cell? ⟨w.heap.size,4,none⟩=some (.slice A 2 c):=(hb1.cell (p:=⟨w.heap.size,4,none⟩) (by show w.heap.size<w.heap.size+2;omega)).trans HC5.out;have HB1:=Lib.hid hb1;have HT:=Lib.hid ht;clear ht hb1;by_cases a:j<2
     ·obtain⟨r,hr⟩:=getX_of_lt HM.out a
      obtain⟨ad,B,b,rfl,hp,h9,hkr⟩:=kidX_at HK.out hb hr;have hmem:=List.mem_of_getElem? hr
      have K:∀ w2,Below w.heap.size w w2→Calls Tryz.prog 71 #[valX r B b,.int .i64 ((d:Int)+1)] w2 fun e w'=>e= .returned (.bool (mayX r (d+1)))∧Below w2.heap.size w2 w':=fun w2 h2=>
       HI.out r hmem B b (d+1) w2 (hkr.next h2) (by omega) (by have:=HNM.out;have:=nmXL_mem hmem;omega)
      obtain⟨v2,hv2⟩:∃ v2,v2=mayX r (d+1):=⟨_,rfl⟩;rw[←hv2] at K;have HV2:=Lib.hid hv2;have HR:=Lib.hid hr;clear hr hv2 hkr hmem;obtain⟨k',n',nm',op',ks1⟩:=r;simp only[valX] at K;obtain⟨c0,c1,c2,c3,c4⟩:=h9;generalize (⟨nm'.toArray⟩:ByteArray)=M1 at K c2;generalize (⟨op'.toArray⟩:ByteArray)=M2 at K c3;obtain⟨l1,hl1⟩:∃ l,l=ks1.length:=⟨_,rfl⟩;rw[←hl1] at K c4;have HKC:=Lib.hid K;clear K hl1
      cases v2 with
      | true=>
        have HT2:Hid (mayL (ks.take (j+1)) (d+1)=true):=Lib.hid (by rw[mayL_take HR.out HT.out];exact HV2.out.symm);go_wp2_with (go_at_call 71;((with_reducible refine(HKC.out _ hb).mono ?_));rintro e w' ⟨rfl,hb2⟩)
        go_roundw
        case rel=>exact⟨j+1,by omega,by go_num,HT2.out,HB1.out.trans (hb2.mono (by have:=HB1.out.size;omega))⟩
        case measure=>simp[intOf];omega
      | false=>
        have HX2:Hid (v=false):=Lib.hid (HX.out _ (mayL_not HR.out HV2.out.symm));go_wp2_with (go_at_call 71;((with_reducible refine(HKC.out _ hb).mono ?_));rintro e w' ⟨rfl,hb2⟩);go_ret;exact⟨ret_bool HX2.out.symm,hb.trans (hb2.mono hb.size)⟩
     ·have HX2:Hid (v=true):=by
       apply Lib.hid;apply HX.out;have:=HT.out;rw[List.take_of_length_le (by have:=HM.out;omega)] at this;exact this
      go_wp2;go_ret;exact⟨ret_bool HX2.out.symm,hb⟩
   have HX:Hid (v=false):=Lib.hid (by rw[hv];simp[k0,k1,k2,k3,k4]);clear hv;have q0:(k==0)=false:=by simpa using k0
   have q1:(k==1)=false:=by simpa using k1
   have q2:(k==2)=false:=by simpa using k2
   have q3:(k==3)=false:=by simpa using k3
   have q4:(k==4)=false:=by simpa using k4
   have q5:k<0∨4<k:=by omega
   clear k0 k1 k2 k3 k4;go_enter Tryz.func71,Tryz.ntmps71;go_wp2
   all_goals (go_ret;exact⟨ret_bool HX.out.symm,two_boxesX _ _ _⟩)
theorem sgB (l:List Tok) (j:Nat) (S:ByteArray) (hS:S=⟨(sg l j).toArray⟩) (p:Bs) (b:Bool) (h:decide (sg l j=p)=b):(S.toList==p)=b∧(S.toList != p)= !b:=by
 have e:S.toList=sg l j:=by rw[toList_data,hS]
 rw[e,←h];by_cases hp:sg l j=p <;> simp[hp]
abbrev objX (x:Ex) (A:Option Addr) (c:Nat):Obj:= .cells #[.int .i64 x.kind,.int .i64 x.n,.string ⟨x.name.toArray⟩,.string ⟨x.op.toArray⟩,.slice A x.kids.length c] 44
theorem size_allocX (w:World) (o:Obj):(w.alloc o).heap.size=w.heap.size+1:=by simp
abbrev objXY (x y:Ex) (A A':Option Addr) (c c':Nat):Obj:= .cells #[.int .i64 x.kind,.int .i64 x.n,.string ⟨x.name.toArray⟩,.string ⟨x.op.toArray⟩,.slice A x.kids.length c,.int .i64 y.kind,.int .i64 y.n,.string ⟨y.name.toArray⟩,.string ⟨y.op.toArray⟩,.slice A' y.kids.length c'] 44
structure SgT (l:List Tok) (k:Nat) (S:ByteArray) (m:Bool) (n:Bool) (p:Bool):Prop where
 b0:(S.toList==[45])=m
 b1:(S.toList==[33])=n
 b2:(S.toList==[40])=p
theorem sgt_of (l:List Tok) (k:Nat) (S:ByteArray) (hS:S=⟨(sg l k).toArray⟩):SgT l k S (decide (sg l k=[45])) (decide (sg l k=[33])) (decide (sg l k=[40])):=
 ⟨(sgB l k S hS [45] _ rfl).1,(sgB l k S hS [33] _ rfl).1,(sgB l k S hS [40] _ rfl).1⟩
def NoX (lo c hi:Nat):Nat→Prop:=fun q=>lo≤q∧q<hi∧q≠c
theorem RdE.goes {l:List Tok} {m:Md} {i d:Nat} {r:Rs} (h:RdE l m i d r):m.pos→i≤l.length→(match m with | .loop _ _=>False | _=>True)→∀ x j,r= .ok x j→i<j:=by
 induction h with
 | deep=>intro _ _ _ x j e;cases e
 | par h1 h2 h3 h4 ih=>
   intro _ hi _ x j e
   cases e
   have a1:=sg_lt (l:=l) (by rw[h1];decide);have:=(h3.within (Nat.le_refl 1) (by omega)).1;omega
 | parOpen=>intro _ _ _ x j e;cases e
 | parBad=>intro _ _ _ x j e;cases e
 | neg h1 h2 h3 ih=>
   intro _ hi _ x j e
   cases e
   have a1:=sg_lt (l:=l) (by rw[h1];decide);have:=(h3.within trivial (by omega)).1;omega
 | not h1 h2 h3 ih=>
   intro _ hi _ x j e
   cases e
   have a1:=sg_lt (l:=l) (by rw[h1];decide);have:=(h3.within trivial (by omega)).1;omega
 | unBad=>intro _ _ _ x j e;cases e
 | num=>intro _ _ _ x j e;cases e;omega
 | var=>intro _ _ _ x j e;cases e;omega
 | none=>intro _ _ _ x j e;cases e
 | some h1 h2 ih1 ih2=>
   intro hp hi _ x j e;have a:=ih1 trivial hi trivial _ _ rfl;have b:=(h2.within hp (h1.within trivial hi).2);rw[e] at b;have:=b.1;omega
 | someBad=>intro _ _ _ x j e;cases e
 | stop=>intro _ _ h;exact h.elim
 | opDeep=>intro _ _ h;exact h.elim
 | op=>intro _ _ h;exact h.elim
 | opBad=>intro _ _ h;exact h.elim
theorem rde_total (l:List Tok):∀ N k,l.length - k≤N→k≤l.length→(∀ d,∃ r,RdE l .one k d r)∧(∀ m d,1≤m→∃ r,RdE l (.some m) k d r)∧∀ m x d,1≤m→∃ r,RdE l (.loop m x) k d r:=by
 intro N
 induction N with
 | zero=>
   intro k hN hk;have hs:sg l k=[]:=sg_past (by omega);have one:∀ d,RdE l .one k d (.bad k 1):=fun d=> .none (by rw[hs];simp[pre3]) (fun t ht=>by rw[List.getElem?_eq_none (by omega)] at ht;cases ht)
   exact⟨fun d=>⟨_,one d⟩,fun m d _=>⟨_,.someBad (one d)⟩,fun m x d hm=>⟨_,.stop (by rw[hs,strong_nil];omega)⟩⟩
 | succ N ih=>
   intro k hN hk
   have loop:∀ m x d,1≤m→∃ r,RdE l (.loop m x) k d r:=by
    intro m x d hm;by_cases h1:m≤strong (sg l k)
    ·have hk1:=strong_sg_lt hm h1
     by_cases h2:d<64
     ·obtain⟨r,hr⟩:=(ih (k+1) (by omega) (by omega)).2.1 (strong (sg l k)+1) (d+1) (by omega)
      have hw:=hr.within (show (Md.some (strong (sg l k)+1)).pos by show 1≤strong (sg l k)+1;omega) (by omega)
      cases r with
      | bad j e=>exact⟨_,.opBad h1 h2 hr⟩
      | ok y j=>
        obtain⟨r2,hr2⟩:=(ih j (by have:=hw.1;omega) hw.2).2.2 m (exBin (sg l k) x y) d hm;exact⟨_,.op h1 h2 hr hr2⟩
     ·exact⟨_,.opDeep h1 (by omega)⟩
    ·exact⟨_,.stop (by omega)⟩
   have one:∀ d,∃ r,RdE l .one k d r:=by
    intro d;by_cases hp:pre3 (sg l k)
    ·have hne:sg l k≠[]:=by rcases hp with e | e | e <;> rw[e] <;> decide
     have hk1:=sg_lt hne;by_cases h2:d<64
     ·rcases hp with e | e | e
      ·obtain⟨r,hr⟩:=(ih (k+1) (by omega) (by omega)).1 (d+1)
       cases r with
       | bad j er=>exact⟨_,.unBad (.inl e) h2 hr⟩
       | ok y j=>exact⟨_,.neg e h2 hr⟩
      ·obtain⟨r,hr⟩:=(ih (k+1) (by omega) (by omega)).1 (d+1)
       cases r with
       | bad j er=>exact⟨_,.unBad (.inr e) h2 hr⟩
       | ok y j=>exact⟨_,.not e h2 hr⟩
      ·obtain⟨r,hr⟩:=(ih (k+1) (by omega) (by omega)).2.1 1 (d+1) (Nat.le_refl 1)
       cases r with
       | bad j er=>exact⟨_,.parBad e h2 hr⟩
       | ok y j=>
         by_cases h4:sg l j=[41]
         ·exact⟨_,.par e h2 hr h4⟩
         ·exact⟨_,.parOpen e h2 hr h4⟩
     ·exact⟨_,.deep hp (by omega)⟩
    ·by_cases h2:∃ t,l[k]?=some t∧t.kind=2
     ·obtain⟨t,h2,h3⟩:=h2
      exact⟨_,.num h2 h3⟩
     ·by_cases h6:∃ t,l[k]?=some t∧t.kind=6
      ·obtain⟨t,h2,h3⟩:=h6
       exact⟨_,.var h2 h3⟩
      ·exact⟨_,.none hp fun t ht=>⟨fun e=>h2 ⟨t,ht,e⟩,fun e=>h6 ⟨t,ht,e⟩⟩⟩
   refine⟨one,fun m d hm=>?_,loop⟩;obtain⟨r,hr⟩:=one d
   cases r with
   | bad j e=>exact⟨_,.someBad hr⟩
   | ok x j=>
     have hj:=(hr.within trivial hk);by_cases hjk:j=k
     ·subst hjk
      obtain⟨r2,hr2⟩:=loop m x d hm;exact⟨_,.some hr hr2⟩
     ·obtain⟨r2,hr2⟩:=(ih j (by have:=hj.1;omega) hj.2).2.2 m x d hm
      exact⟨_,.some hr hr2⟩
theorem read_some (l:List Tok) (k:Nat) (hk:k≤l.length):∃ r,RdE l (.some 1) k 0 r:=(rde_total l (l.length - k) k (Nat.le_refl _) hk).2.1 1 0 (Nat.le_refl 1)
def PostPX (w:World) (r:Rs) (e:Ending) (w':World):Prop:=Below w.heap.size w w'∧match r with
 | .ok x j=>∃ A c,e= .returned (.tuple #[.agg #[.int .i64 x.kind,.int .i64 x.n,.string ⟨x.name.toArray⟩,.string ⟨x.op.toArray⟩,.slice A x.kids.length c],.int .i64 j,.int .i64 0])∧KidsX (LtX w'.heap.size) w' A x
 | .bad j er=>e= .returned (.tuple #[.agg #[.int .i64 0,.int .i64 0,.string ⟨#[]⟩,.string ⟨#[]⟩,.slice none 0 0],.int .i64 j,.int .i64 er])
def PostPF (w:World) (r:Rs) (e:Ending) (w':World):Prop:=Below w.heap.size w w'∧match r with
 | .ok x j=>∃ A c,e= .returned (.tuple #[.agg #[.int .i64 x.kind,.int .i64 x.n,.string ⟨x.name.toArray⟩,.string ⟨x.op.toArray⟩,.slice A x.kids.length c],.int .i64 j,.int .i64 0])∧KidsX (FrX w.heap.size w'.heap.size) w' A x
 | .bad j er=>e= .returned (.tuple #[.agg #[.int .i64 0,.int .i64 0,.string ⟨#[]⟩,.string ⟨#[]⟩,.slice none 0 0],.int .i64 j,.int .i64 er])
theorem RdrX.other {b:Nat} {w:World} {A:Option Addr} {n c:Nat} {l:List Tok} {k o:Nat} (h:RdrX b w A n c l k o) {a:Addr} (ha:b<a.block) (u:Value):RdrX b (w.setCell a u) A n c l k o:=by
 refine⟨?_,?_,?_,?_,?_,h.row.keep fun p hp=>World.cell?_of_block (Below.heap_setCell _ _ _ _ (by omega)),h.len⟩
 ·rw[World.cell?_setCell_other _ _ _ _ (fun e=>by rw[e] at ha;exact absurd ha (Nat.lt_irrefl _))];exact h.c0
 ·rw[World.cell?_setCell_other _ _ _ _ (fun e=>by rw[e] at ha;exact absurd ha (Nat.lt_irrefl _))];exact h.c1
 ·rw[World.cell?_setCell_other _ _ _ _ (fun e=>by rw[e] at ha;exact absurd ha (Nat.lt_irrefl _))];exact h.c2
 ·rw[World.frozen?_setCell];exact h.f1
 ·rw[World.frozen?_setCell];exact h.f2
theorem RdrX.put5 {b:Nat} {w:World} {A:Option Addr} {n c:Nat} {l:List Tok} {k o:Nat} (h:RdrX b w A n c l k o) {q:Nat} (hq:b<q) (v0 v1 v2 v3 v4:Value):RdrX b (put5 w q v0 v1 v2 v3 v4) A n c l k o:=
 ((((h.other (a:=⟨q,0,none⟩) hq _).other (a:=⟨q,1,none⟩) hq _).other (a:=⟨q,2,none⟩) hq _).other (a:=⟨q,3,none⟩) hq _).other (a:=⟨q,4,none⟩) hq _
theorem RdrX.placez {b:Nat} {w:World} {A:Option Addr} {n c:Nat} {l:List Tok} {k o:Nat} (h:RdrX b w A n c l k o) (j:Nat) (z:Int) (hz:z=j):RdrX b (w.setCell ⟨b,1,none⟩ (.int .i64 z)) A n c l j o:=by subst hz;exact h.place j
theorem RdrX.box {b:Nat} {w:World} {A:Option Addr} {n c:Nat} {l:List Tok} {k o:Nat} (h:RdrX b w A n c l k o) (ob:Obj):RdrX b (w.alloc ob) A n c l k o:=h.next (one_boxX _ _)
structure MidX (b:Nat) (w W:World) (A:Option Addr) (n c:Nat) (l:List Tok) (j o:Nat):Prop where
 boxQ:Box5 W w.heap.size (.int .i64 0) (.int .i64 0) (.string ⟨#[]⟩) (.string ⟨#[]⟩) (.slice none 0 0)
 grown:w.grownBy W (some b)
 rd:RdrX b W A n c l j o
 size:w.heap.size<W.heap.size
theorem MidX.first {b:Nat} {w:World} {A:Option Addr} {n c:Nat} {l:List Tok} {k o:Nat} (hr:RdrX b w A n c l k o):MidX b w (w.alloc zeroX) A n c l k o:=
 ⟨Box5.new w _ _ _ _ _ _,grown_below (one_boxX _ _),hr.box _,by rw[size_allocX];exact Nat.lt_succ_self _⟩
theorem MidX.more {b:Nat} {w W W':World} {A:Option Addr} {n c:Nat} {l:List Tok} {k j o o':Nat} (h:MidX b w W A n c l k o) (hlt:b<w.heap.size) (hg:W.grownBy W' (some b)) (hr:RdrX b W' A n c l j o'):MidX b w W' A n c l j o':=
 ⟨h.boxQ.grown hg (by omega),grown_trans h.grown hg,hr,Nat.lt_of_lt_of_le h.size hg.size⟩
theorem MidX.low {b:Nat} {w W W':World} {A:Option Addr} {n c:Nat} {l:List Tok} {k o:Nat} (h:MidX b w W A n c l k o) (hlt:b<w.heap.size) (hb:Below W.heap.size W W'):MidX b w W' A n c l k o:=h.more hlt (grown_below hb) (h.rd.next hb)
theorem MidX.go {b:Nat} {w W:World} {A:Option Addr} {n c:Nat} {l:List Tok} {k o:Nat} (h:MidX b w W A n c l k o) (hlt:b<w.heap.size) (j:Nat) (z:Int) (hz:z=j):MidX b w (W.setCell ⟨b,1,none⟩ (.int .i64 z)) A n c l j o:=h.more hlt (grown_set b 1 _ _) (h.rd.placez j z hz)
structure EndX (b:Nat) (w W3:World) (A:Option Addr) (n c:Nat) (l:List Tok) (j o:Nat) (v0 v1 v2 v3 v4:Value):Prop where
 box:Box5 W3 w.heap.size v0 v1 v2 v3 v4
 grown:w.grownBy W3 (some b)
 rd:RdrX b W3 A n c l j o
theorem MidX.fin {b:Nat} {w W W3:World} {A:Option Addr} {n c:Nat} {l:List Tok} {j o:Nat} {v0 v1 v2 v3 v4:Value} (h:MidX b w W A n c l j o) (hlt:b<w.heap.size)
  (h3:Below (put5 W w.heap.size v0 v1 v2 v3 v4).heap.size (put5 W w.heap.size v0 v1 v2 v3 v4) W3):EndX b w W3 A n c l j o v0 v1 v2 v3 v4:=
 ⟨(h.boxQ.put _ _ _ _ _).low h3,grown_trans (grown_put5 h.grown (Nat.le_refl _) _ _ _ _ _) (grown_below h3),(h.rd.put5 hlt _ _ _ _ _).next h3⟩
def PostR9 (b:Nat) (w:World) (A:Option Addr) (n c:Nat) (l:List Tok) (r:Rs) (e:Ending) (w':World):Prop:=w.grownBy w' (some b)∧match r with
 | .ok x j=>(∃ A' c',e= .returned (.agg #[.int .i64 x.kind,.int .i64 x.n,.string ⟨x.name.toArray⟩,.string ⟨x.op.toArray⟩,.slice A' x.kids.length c'])∧KidsX (FrX w.heap.size w'.heap.size) w' A' x)∧RdrX b w' A n c l j 0
 | .bad j er=>(∃ (v0 v1:Int) (v2 v3:ByteArray) (A4:Option Addr) (n4 c4:Nat),e= .returned (.agg #[.int .i64 v0,.int .i64 v1,.string v2,.string v3,.slice A4 n4 c4]))∧RdrX b w' A n c l j er
def XOne (b:Nat) (A:Option Addr) (n c:Nat) (l:List Tok) (k d:Nat) (r:Rs):Prop:=∀ w,RdrX b w A n c l k 0→Calls Tryz.prog 141 #[.pointer (some ⟨b,0,none⟩),.int .i64 d] w (PostR9 b w A n c l r)
def XRow (b:Nat) (A:Option Addr) (n c:Nat) (l:List Tok) (m k d:Nat) (r:Rs):Prop:=∀ w,RdrX b w A n c l k 0→Calls Tryz.prog 121 #[.pointer (some ⟨b,0,none⟩),.int .i64 m,.int .i64 d] w (PostR9 b w A n c l r)
theorem post_zero {b:Nat} {w W3:World} {A:Option Addr} {n c:Nat} {l:List Tok} {j er:Nat} (h:EndX b w W3 A n c l j er (.int .i64 0) (.int .i64 0) (.string ⟨#[]⟩) (.string ⟨#[]⟩) (.slice none 0 0)):PostR9 b w A n c l (.bad j er) (.returned (.agg #[.int .i64 0,.int .i64 0,.string ⟨#[]⟩,.string ⟨#[]⟩,.slice none 0 0])) W3:=
 ⟨h.grown,⟨0,0,⟨#[]⟩,⟨#[]⟩,none,0,0,rfl⟩,h.rd⟩
theorem signX_0 (b:Nat) (w:World) (A:Option Addr) (n c:Nat) (l:List Tok) (k:Nat) (h:RdrX b w A n c l k 0):
 Calls Tryz.prog 142 #[.pointer (some ⟨b,0,none⟩)] w fun e w'=>e= .returned (.string ⟨(sg l k).toArray⟩)∧Below w.heap.size w w':=signX_any b w A n c l k 0 h (by omega)
theorem signX_1 (b:Nat) (w:World) (A:Option Addr) (n c:Nat) (l:List Tok) (k o:Nat) (h:RdrX b w A n c l k o) (ho:o≠0∧o≤100):
  Calls Tryz.prog 142 #[.pointer (some ⟨b,0,none⟩)] w fun e w'=>e= .returned (.string ⟨#[]⟩)∧Below w.heap.size w w':=by
 have:=signX_any b w A n c l k o h ho.2;unfold sgX at this;rw[if_neg ho.1] at this;exact this
theorem failX_0 (er:Nat) (z:Int) (hz:z=er) (b:Nat) (w:World) (A:Option Addr) (n c:Nat) (l:List Tok) (k:Nat) (h:RdrX b w A n c l k 0):
 Calls Tryz.prog 143 #[.pointer (some ⟨b,0,none⟩),.int .i64 z] w fun e w'=>e= .returned (.tuple #[])∧RdrX b w' A n c l k er∧w.grownBy w' (some b):=by subst hz;exact failX_any er b w A n c l k 0 h (by omega)
theorem failX_1 (er:Nat) (z:Int) (hz:z=er) (b:Nat) (w:World) (A:Option Addr) (n c:Nat) (l:List Tok) (k o:Nat) (h:RdrX b w A n c l k o) (ho:o≠0∧o≤100):
  Calls Tryz.prog 143 #[.pointer (some ⟨b,0,none⟩),.int .i64 z] w fun e w'=>e= .returned (.tuple #[])∧RdrX b w' A n c l k o∧w.grownBy w' (some b):=by
 subst hz;have:=failX_any er b w A n c l k o h ho.2;rw[if_neg ho.1] at this;exact this
theorem xone_deep (b:Nat) (w:World) (A:Option Addr) (n c:Nat) (l:List Tok) (k d:Nat) (h:RdrX b w A n c l k 0) (hd:64≤d) (hs:pre3 (sg l k)):
  Calls Tryz.prog 141 #[.pointer (some ⟨b,0,none⟩),.int .i64 d] w (PostR9 b w A n c l (.bad k 8)):=by
 have hlt:=h.lt;have HM0:=Lib.hid (MidX.first h);obtain⟨S,hS⟩:∃ S:ByteArray,S=⟨(sg l k).toArray⟩:=⟨_,rfl⟩;have KS:Hid (∀ w,RdrX b w A n c l k 0→Calls Tryz.prog 142 #[.pointer (some ⟨b,0,none⟩)] w fun e w'=>e= .returned (.string S)∧Below w.heap.size w w'):=Lib.hid fun w h=>by rw[hS];exact signX_0 b w A n c l k h
 have KF:=Lib.hid fun w h=>failX_0 8 8 rfl b w A n c l k h
 obtain⟨s0,s1,s2⟩:=sgt_of l k S hS;have q1:(64:Int)≤d:=by omega
 clear h hd hS
 rcases hs with hs | hs | hs
 all_goals
  rw[hs] at s0 s1 s2;clear hs;go_enter Tryz.func141,Tryz.ntmps141;go_wp2_with (first | (go_at_call 142;go_must ((with_reducible refine(KS.out _ HM0.out.rd).mono ?_);rintro e w1 ⟨rfl,hb1⟩;have HM1:=Lib.hid (HM0.out.low hlt hb1);clear hb1)) | (go_at_call 143;go_must ((with_reducible refine(KF.out _ HM1.out.rd).mono ?_);rintro e w2 ⟨rfl,hr2,hg2⟩;have HM2:=Lib.hid (HM1.out.more hlt hg2 hr2);clear hr2 hg2;obtain⟨d0,d1,d2,d3,d4,_⟩:=HM2.out.boxQ;obtain⟨e0,e1,e2,e3,e4⟩:=HM2.out.boxQ.freed)));obtain⟨W3,hW3⟩:∃ W3,W3=put5 w2 w.heap.size (.int .i64 0) (.int .i64 0) (.string ⟨#[]⟩) (.string ⟨#[]⟩) (.slice none 0 0):=⟨_,rfl⟩;have HE:=HM2.out.fin hlt (by rw[←hW3];exact Below.refl _ W3);unfold put5 at hW3;rw[←hW3];clear hW3 d0 d1 d2 d3 d4;obtain⟨d0,d1,d2,d3,d4,_⟩:=HE.box;exact bodyPost_ret (v:= .agg #[.int .i64 0,.int .i64 0,.string ⟨#[]⟩,.string ⟨#[]⟩,.slice none 0 0]) (by simp[results,Tryz.results141,go_sem,d0,d1,d2,d3,d4]) rfl (post_zero HE)
end Go.Proofs.YtfgcdppebeojbaaGreatDoor
