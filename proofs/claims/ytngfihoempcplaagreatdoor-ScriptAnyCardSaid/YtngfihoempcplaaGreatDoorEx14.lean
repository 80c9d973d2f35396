import Derived.Test.YtngfihoempcplaaGreatDoorTkM
import Derived.Deep.QuietTactic
import Derived.Deep.Slices
import Derived.RegionTactic
import Derived.BigQuiet
import Derived.Tactics2
import Derived.StillTactics
import Derived.Test.YtngfihoempcplaaGreatDoorCf
import Derived.Test.YtngfihoempcplaaGreatDoorQRead
import Derived.Test.YtngfihoempcplaaGreatDoorName2
import Derived.Lib.Bytealg
import Derived.Deep.DeepMust
import Derived.Test.YtngfihoempcplaaGreatDoorTkQ
namespace Go.Proofs.YtngfihoempcplaaGreatDoor
open Go Go.RowKit
set_option maxRecDepth 100000
set_option maxHeartbeats 4000000
inductive Ex where
 | mk (kind n:Int) (name op:Bs) (kids:List Ex):Ex
theorem Ex.ind {P:Ex→Prop} (h:∀ k n nm op ks,(∀ r∈ks,P r)→P (.mk k n nm op ks)):∀ r,P r:=by
 intro r;refine Ex.rec (motive_1:=P) (motive_2:=fun l=>∀ r∈l,P r) ?_ ?_ ?_ r
 ·intro k n nm op ks ih;exact h k n nm op ks ih
 ·intro r hr;cases hr
 ·intro a l ha hl r hr
  rcases List.mem_cons.1 hr with rfl | hr
  ·exact ha
  ·exact hl r hr
def Ex.kind:Ex→Int | .mk k _ _ _ _=>k
def Ex.n:Ex→Int | .mk _ n _ _ _=>n
def Ex.name:Ex→Bs | .mk _ _ nm _ _=>nm
def Ex.op:Ex→Bs | .mk _ _ _ op _=>op
def Ex.kids:Ex→List Ex | .mk _ _ _ _ ks=>ks
def exNone:Ex:= .mk 0 0 [] [] []
def exNum (n:Int):Ex:= .mk 0 n [] [] []
def exVar (w:Bs):Ex:= .mk 1 0 w [] []
def exNeg (x:Ex):Ex:= .mk 2 0 [] [] [x]
def exNot (x:Ex):Ex:= .mk 3 0 [] [] [x]
def exBin (op:Bs) (x y:Ex):Ex:= .mk 4 0 [] op [x,y]
def strong (op:Bs):Nat:=
 if op=[124,124] then 1 else if op=[38,38] then 2 else if op=[61,61]∨op=[33,61] then 3
 else if op=[60]∨op=[62]∨op=[60,61]∨op=[62,61] then 4 else if op=[43]∨op=[45] then 5
 else if op=[42]∨op=[47]∨op=[37] then 6 else 0
theorem z4t (op:Bs):strong op≤6:=by
 unfold strong;repeat' split
 all_goals omega
theorem z84:strong []=0:=by decide
def sg (l:List Tok) (i:Nat):Bs:=match l[i]? with
 | some t=>if t.kind=4 then t.word else []
 | none=>[]
inductive Rs where
 | ok (x:Ex) (at_:Nat):Rs
 | bad (at_:Nat) (e:Nat):Rs
inductive Md where
 | one:Md
 | some (least:Nat):Md
 | loop (least:Nat) (x:Ex):Md
def pre3 (w:Bs):Prop:=w=[45]∨w=[33]∨w=[40]
inductive RdE (l:List Tok):Md→Nat→Nat→Rs→Prop
 | deep {i d}:pre3 (sg l i)→64≤d→RdE l .one i d (.bad i 8)
 | par {i d x j}:sg l i=[40]→d<64→RdE l (.some 1) (i+1) (d+1) (.ok x j)→sg l j=[41]→RdE l .one i d (.ok x (j+1))
 | parOpen {i d x j}:sg l i=[40]→d<64→RdE l (.some 1) (i+1) (d+1) (.ok x j)→sg l j≠[41]→RdE l .one i d (.bad j 1)
 | parBad {i d j e}:sg l i=[40]→d<64→RdE l (.some 1) (i+1) (d+1) (.bad j e)→RdE l .one i d (.bad j e)
 | neg {i d x j}:sg l i=[45]→d<64→RdE l .one (i+1) (d+1) (.ok x j)→RdE l .one i d (.ok (exNeg x) j)
 | not {i d x j}:sg l i=[33]→d<64→RdE l .one (i+1) (d+1) (.ok x j)→RdE l .one i d (.ok (exNot x) j)
 | unBad {i d j e}:sg l i=[45]∨sg l i=[33]→d<64→RdE l .one (i+1) (d+1) (.bad j e)→RdE l .one i d (.bad j e)
 | num {i d t}:l[i]?=some t→t.kind=2→RdE l .one i d (.ok (exNum t.n) (i+1))
 | var {i d t}:l[i]?=some t→t.kind=6→RdE l .one i d (.ok (exVar t.word) (i+1))
 | none {i d}:¬ pre3 (sg l i)→(∀ t,l[i]?=some t→t.kind≠2∧t.kind≠6)→RdE l .one i d (.bad i 1)
 | some {m i d x j r}:RdE l .one i d (.ok x j)→RdE l (.loop m x) j d r→RdE l (.some m) i d r
 | someBad {m i d j e}:RdE l .one i d (.bad j e)→RdE l (.some m) i d (.bad j e)
 | stop {m x i d}:strong (sg l i)<m→RdE l (.loop m x) i d (.ok x i)
 | opDeep {m x i d}:m≤strong (sg l i)→64≤d→RdE l (.loop m x) i d (.bad i 8)
 | op {m x i d y k r}:m≤strong (sg l i)→d<64→RdE l (.some (strong (sg l i)+1)) (i+1) (d+1) (.ok y k)→RdE l (.loop m (exBin (sg l i) x y)) k d r→RdE l (.loop m x) i d r
 | opBad {m x i d j e}:m≤strong (sg l i)→d<64→RdE l (.some (strong (sg l i)+1)) (i+1) (d+1) (.bad j e)→RdE l (.loop m x) i d (.bad j e)
theorem z1o {l:List Tok} {i:Nat} {t:Tok} (h:l[i]?=some t) (hk:t.kind≠4):sg l i=[]:=by unfold sg;rw[h];exact if_neg hk
theorem sg_at {l:List Tok} {i:Nat} (h:sg l i≠[]):∃ t,l[i]?=some t∧t.kind=4∧sg l i=t.word:=by
 unfold sg at h ⊢
 cases ht:l[i]? with
 | none=>rw[ht] at h;exact absurd rfl h
 | some t=>
   rw[ht] at h;by_cases hk:t.kind=4
   ·exact⟨t,rfl,hk,if_pos hk⟩
   ·exact absurd (if_neg hk) h
theorem sg_lt {l:List Tok} {i:Nat} (h:sg l i≠[]):i<l.length:=by
 obtain⟨t,ht,_⟩:=sg_at h;exact(List.getElem?_eq_some_iff.1 ht).1
theorem z7p {l:List Tok} {i:Nat} (h:¬ i<l.length):sg l i=[]:=by unfold sg;rw[List.getElem?_eq_none (by omega)]
theorem z1j {l:List Tok} {i m:Nat} (hm:1≤m) (h:m≤strong (sg l i)):i<l.length:=sg_lt fun e=>by rw[e,z84] at h;omega
theorem RdE.det {l:List Tok} {m:Md} {i d:Nat} {r:Rs} (h:RdE l m i d r):∀ {r'},RdE l m i d r'→r=r':=by
 have n40:([40]:Bs)≠[45]:=by decide
 have n33:([40]:Bs)≠[33]:=by decide
 have n45:([45]:Bs)≠[33]:=by decide
 induction h with
 | deep h1 h2=>
   intro r' h'
   cases h' with
   | deep=>rfl
   | par=>omega
   | parOpen=>omega
   | parBad=>omega
   | neg=>omega
   | not=>omega
   | unBad=>omega
   | num h3 h4=>rw[z1o h3 (by omega)] at h1;simp[pre3] at h1
   | var h3 h4=>rw[z1o h3 (by omega)] at h1;simp[pre3] at h1
   | none h3=>exact absurd h1 h3
 | par h1 h2 h3 h4 ih=>
   intro r' h'
   cases h' with
   | deep=>omega
   | par _ _ k3=>cases ih k3;rfl
   | parOpen _ _ k3 k4=>cases ih k3;exact absurd h4 k4
   | parBad _ _ k3=>cases ih k3
   | neg k1=>rw[h1] at k1;exact absurd k1 n40
   | not k1=>rw[h1] at k1;exact absurd k1 n33
   | unBad k1=>rw[h1] at k1;rcases k1 with k1 | k1 <;> simp at k1
   | num k3 k4=>rw[z1o k3 (by omega)] at h1;cases h1
   | var k3 k4=>rw[z1o k3 (by omega)] at h1;cases h1
   | none k3=>exact absurd (.inr (.inr h1)) k3
 | parOpen h1 h2 h3 h4 ih=>
   intro r' h'
   cases h' with
   | deep=>omega
   | par _ _ k3 k4=>cases ih k3;exact absurd k4 h4
   | parOpen _ _ k3 k4=>cases ih k3;rfl
   | parBad _ _ k3=>cases ih k3
   | neg k1=>rw[h1] at k1;exact absurd k1 n40
   | not k1=>rw[h1] at k1;exact absurd k1 n33
   | unBad k1=>rw[h1] at k1;rcases k1 with k1 | k1 <;> simp at k1
   | num k3 k4=>rw[z1o k3 (by omega)] at h1;cases h1
   | var k3 k4=>rw[z1o k3 (by omega)] at h1;cases h1
   | none k3=>exact absurd (.inr (.inr h1)) k3
 | parBad h1 h2 h3 ih=>
   intro r' h'
   cases h' with
   | deep=>omega
   | par _ _ k3 k4=>cases ih k3
   | parOpen _ _ k3 k4=>cases ih k3
   | parBad _ _ k3=>cases ih k3;rfl
   | neg k1=>rw[h1] at k1;exact absurd k1 n40
   | not k1=>rw[h1] at k1;exact absurd k1 n33
   | unBad k1=>rw[h1] at k1;rcases k1 with k1 | k1 <;> simp at k1
   | num k3 k4=>rw[z1o k3 (by omega)] at h1;cases h1
   | var k3 k4=>rw[z1o k3 (by omega)] at h1;cases h1
   | none k3=>exact absurd (.inr (.inr h1)) k3
 | neg h1 h2 h3 ih=>
   intro r' h'
   cases h' with
   | deep=>omega
   | par k1=>rw[h1] at k1;exact absurd k1.symm n40
   | parOpen k1=>rw[h1] at k1;exact absurd k1.symm n40
   | parBad k1=>rw[h1] at k1;exact absurd k1.symm n40
   | neg _ _ k3=>cases ih k3;rfl
   | not k1=>rw[h1] at k1;exact absurd k1 n45
   | unBad _ _ k3=>cases ih k3
   | num k3 k4=>rw[z1o k3 (by omega)] at h1;cases h1
   | var k3 k4=>rw[z1o k3 (by omega)] at h1;cases h1
   | none k3=>exact absurd (.inl h1) k3
 | not h1 h2 h3 ih=>
   intro r' h'
   cases h' with
   | deep=>omega
   | par k1=>rw[h1] at k1;exact absurd k1.symm n33
   | parOpen k1=>rw[h1] at k1;exact absurd k1.symm n33
   | parBad k1=>rw[h1] at k1;exact absurd k1.symm n33
   | neg k1=>rw[h1] at k1;exact absurd k1.symm n45
   | not _ _ k3=>cases ih k3;rfl
   | unBad _ _ k3=>cases ih k3
   | num k3 k4=>rw[z1o k3 (by omega)] at h1;cases h1
   | var k3 k4=>rw[z1o k3 (by omega)] at h1;cases h1
   | none k3=>exact absurd (.inr (.inl h1)) k3
 | unBad h1 h2 h3 ih=>
   intro r' h'
   cases h' with
   | deep=>omega
   | par k1=>rw[k1] at h1;rcases h1 with h1 | h1 <;> simp at h1
   | parOpen k1=>rw[k1] at h1;rcases h1 with h1 | h1 <;> simp at h1
   | parBad k1=>rw[k1] at h1;rcases h1 with h1 | h1 <;> simp at h1
   | neg _ _ k3=>cases ih k3
   | not _ _ k3=>cases ih k3
   | unBad _ _ k3=>cases ih k3;rfl
   | num k3 k4=>rw[z1o k3 (by omega)] at h1;rcases h1 with h1 | h1 <;> cases h1
   | var k3 k4=>rw[z1o k3 (by omega)] at h1;rcases h1 with h1 | h1 <;> cases h1
   | none k3=>exact absurd (by rcases h1 with h1 | h1;exact .inl h1;exact .inr (.inl h1)) k3
 | num h1 h2=>
   intro r' h';have h0:=z1o h1 (by omega)
   cases h' with
   | deep k1=>rw[h0] at k1;simp[pre3] at k1
   | par k1=>rw[h0] at k1;cases k1
   | parOpen k1=>rw[h0] at k1;cases k1
   | parBad k1=>rw[h0] at k1;cases k1
   | neg k1=>rw[h0] at k1;cases k1
   | not k1=>rw[h0] at k1;cases k1
   | unBad k1=>rw[h0] at k1;rcases k1 with k1 | k1 <;> cases k1
   | num k1 k2=>rw[h1] at k1;cases k1;rfl
   | var k1 k2=>rw[h1] at k1;cases k1;omega
   | none _ k2=>exact absurd h2 (k2 _ h1).1
 | var h1 h2=>
   intro r' h';have h0:=z1o h1 (by omega)
   cases h' with
   | deep k1=>rw[h0] at k1;simp[pre3] at k1
   | par k1=>rw[h0] at k1;cases k1
   | parOpen k1=>rw[h0] at k1;cases k1
   | parBad k1=>rw[h0] at k1;cases k1
   | neg k1=>rw[h0] at k1;cases k1
   | not k1=>rw[h0] at k1;cases k1
   | unBad k1=>rw[h0] at k1;rcases k1 with k1 | k1 <;> cases k1
   | num k1 k2=>rw[h1] at k1;cases k1;omega
   | var k1 k2=>rw[h1] at k1;cases k1;rfl
   | none _ k2=>exact absurd h2 (k2 _ h1).2
 | none h1 h2=>
   intro r' h'
   cases h' with
   | deep k1=>exact absurd k1 h1
   | par k1=>exact absurd (.inr (.inr k1)) h1
   | parOpen k1=>exact absurd (.inr (.inr k1)) h1
   | parBad k1=>exact absurd (.inr (.inr k1)) h1
   | neg k1=>exact absurd (.inl k1) h1
   | not k1=>exact absurd (.inr (.inl k1)) h1
   | unBad k1=>exact absurd (by rcases k1 with k1 | k1;exact .inl k1;exact .inr (.inl k1)) h1
   | num k1 k2=>exact absurd k2 (h2 _ k1).1
   | var k1 k2=>exact absurd k2 (h2 _ k1).2
   | none=>rfl
 | some h1 h2 ih1 ih2=>
   intro r' h'
   cases h' with
   | some k1 k2=>cases ih1 k1;exact ih2 k2
   | someBad k1=>cases ih1 k1
 | someBad h1 ih=>
   intro r' h'
   cases h' with
   | some k1=>cases ih k1
   | someBad k1=>cases ih k1;rfl
 | stop h1=>
   intro r' h'
   cases h' with
   | stop=>rfl
   | opDeep=>omega
   | op=>omega
   | opBad=>omega
 | opDeep h1 h2=>
   intro r' h'
   cases h' with
   | stop=>omega
   | opDeep=>rfl
   | op=>omega
   | opBad=>omega
 | op h1 h2 h3 h4 ih3 ih4=>
   intro r' h'
   cases h' with
   | stop=>omega
   | opDeep=>omega
   | op _ _ k3 k4=>cases ih3 k3;exact ih4 k4
   | opBad _ _ k3=>cases ih3 k3
 | opBad h1 h2 h3 ih=>
   intro r' h'
   cases h' with
   | stop=>omega
   | opDeep=>omega
   | op _ _ k3=>cases ih k3
   | opBad _ _ k3=>cases ih k3;rfl
def Md.pos:Md→Prop
 | .one=>True
 | .some m=>1≤m
 | .loop m _=>1≤m
def Rs.within (l:List Tok) (i:Nat):Rs→Prop
 | .ok _ j=>i≤j∧j≤l.length
 | .bad j e=>i≤j∧j≤l.length∧(e=1∨e=8)
theorem RdE.within {l:List Tok} {m:Md} {i d:Nat} {r:Rs} (h:RdE l m i d r):m.pos→i≤l.length→r.within l i:=by
 have lt:∀ {i w},sg l i=w→w≠[]→i<l.length:=fun h hw=>sg_lt (by rw[h];exact hw)
 induction h with
 | deep=>intro _ hi;exact⟨Nat.le_refl _,hi,.inr rfl⟩
 | par h1 h2 h3 h4 ih=>
   intro _ hi;have a1:=lt h1 (by decide);have a2:=lt h4 (by decide);obtain⟨b1,b2⟩:=ih (Nat.le_refl 1) (by omega);exact⟨by omega,by omega⟩
 | parOpen h1 h2 h3 h4 ih=>
   intro _ hi;have a1:=lt h1 (by decide);obtain⟨b1,b2⟩:=ih (Nat.le_refl 1) (by omega);exact⟨by omega,b2,.inl rfl⟩
 | parBad h1 h2 h3 ih=>
   intro _ hi;have a1:=lt h1 (by decide);obtain⟨b1,b2,b3⟩:=ih (Nat.le_refl 1) (by omega);exact⟨by omega,b2,b3⟩
 | neg h1 h2 h3 ih=>
   intro _ hi;have a1:=lt h1 (by decide);obtain⟨b1,b2⟩:=ih trivial (by omega);exact⟨by omega,b2⟩
 | not h1 h2 h3 ih=>
   intro _ hi;have a1:=lt h1 (by decide);obtain⟨b1,b2⟩:=ih trivial (by omega);exact⟨by omega,b2⟩
 | @unBad i d j e h1 h2 h3 ih=>
   intro _ hi;have a1:i<l.length:=by rcases h1 with h1 | h1 <;> exact lt h1 (by decide)
   obtain⟨b1,b2,b3⟩:=ih trivial (by omega);exact⟨by omega,b2,b3⟩
 | num h1=>intro _ hi;have:=(List.getElem?_eq_some_iff.1 h1).1;exact⟨by omega,by omega⟩
 | var h1=>intro _ hi;have:=(List.getElem?_eq_some_iff.1 h1).1;exact⟨by omega,by omega⟩
 | none=>intro _ hi;exact⟨Nat.le_refl _,hi,.inl rfl⟩
 | @some m i d x j r h1 h2 ih1 ih2=>
   intro hp hi;obtain⟨b1,b2⟩:=ih1 trivial hi;have:=ih2 hp b2
   cases r with
   | ok y k=>exact⟨by have:=this.1;omega,this.2⟩
   | bad k e=>exact⟨by have:=this.1;omega,this.2⟩
 | someBad h1 ih=>intro _ hi;exact ih trivial hi
 | stop=>intro _ hi;exact⟨Nat.le_refl _,hi⟩
 | opDeep=>intro _ hi;exact⟨Nat.le_refl _,hi,.inr rfl⟩
 | @op m x i d y k r h1 h2 h3 h4 ih3 ih4=>
   intro hp hi;have a1:=z1j hp h1;obtain⟨b1,b2⟩:=ih3 (by show 1≤strong (sg l i)+1;omega) (by omega);have:=ih4 hp b2
   cases r with
   | ok y k=>exact⟨by have:=this.1;omega,this.2⟩
   | bad k e=>exact⟨by have:=this.1;omega,this.2⟩
 | @opBad m x i d j e h1 h2 h3 ih=>
   intro hp hi;have a1:=z1j hp h1;obtain⟨b1,b2,b3⟩:=ih (by show 1≤strong (sg l i)+1;omega) (by omega);exact⟨by omega,b2,b3⟩
def shapeX (k n:Int) (nm op:Bs) (c:Nat):Bool:=
 if k=0 then decide (0≤n) && nm.isEmpty && op.isEmpty && c==0
 else if k=1 then decide (n=0) && isName nm && op.isEmpty && c==0
 else if k=2∨k=3 then decide (n=0) && nm.isEmpty && op.isEmpty && c==1
 else if k=4 then decide (n=0) && nm.isEmpty && (strong op != 0) && c==2 else false
mutual
def mayX:Ex→Nat→Bool
 | .mk k n nm op ks,d=>shapeX k n nm op ks.length && (ks.isEmpty || decide (d<64)) && mayL ks (d+1)
def mayL:List Ex→Nat→Bool
 | [],_=>true
 | x::r,d=>mayX x d && mayL r d
end
theorem y5c:∀ {l:List Ex} {d:Nat},mayL l d=true→∀ x∈l,mayX x d=true
 | [],d,_,x,hx=>by cases hx
 | y::l,d,h,x,hx=>by
   rw[mayL,Bool.and_eq_true] at h
   rcases List.mem_cons.1 hx with rfl | hx
   ·exact h.1
   ·exact y5c h.2 x hx
theorem z0p (a:Addr) (n:Nat):(a.add n).block=a.block:=by unfold Addr.add;split <;> rfl
def valX (r:Ex) (A:OA) (c:Nat):Value:=match r with
 | .mk k n nm op ks=> .agg #[k,n,nm,op,.slice A ks.length c]
def AtX (w:World) (a:Addr) (r:Ex) (A:OA) (c:Nat):Prop:=match r with
 | .mk k n nm op ks=>
   w.cell? a=some (.int .i64 k)∧w.cell? ⟨a.block,a.off+1,none⟩=some (.int .i64 n)∧w.cell? ⟨a.block,a.off+2,none⟩=some (.string ⟨nm.toArray⟩)∧
   w.cell? ⟨a.block,a.off+3,none⟩=some (.string ⟨op.toArray⟩)∧w.cell? ⟨a.block,a.off+4,none⟩=some (.slice A ks.length c)
mutual
def KidsX (P:Nat→Prop) (w:World) (A:OA):Ex→Prop
 | .mk _ _ _ _ ks=>ks=[]∨∃ ad,A=some ad∧P ad.block∧KidsXL P w ad 0 ks
def KidsXL (P:Nat→Prop) (w:World) (ad:Addr) (i:Nat):List Ex→Prop
 | []=>True
 | r::rs=>(∃ A c,AtX w (ad.add (i * 5)) r A c∧KidsX P w A r)∧KidsXL P w ad (i+1) rs
end
theorem y1r {P:Nat→Prop} {w:World} {ad:Addr}:∀ {l:List Ex} {i k:Nat} {r:Ex},KidsXL P w ad i l→l[k]?=some r→∃ A c,AtX w (ad.add ((i+k) * 5)) r A c∧KidsX P w A r
 | [],i,k,r,_,hk=>by simp at hk
 | x::l,i,0,r,h,hk=>by
   injection hk with hk;subst hk
   rw[KidsXL] at h;exact h.1
 | x::l,i,k+1,r,h,hk=>by
   rw[KidsXL] at h;have:=y1r h.2 (k:=k) (r:=r) (by simpa using hk);rw[show i+(k+1)=i+1+k by omega];exact this
theorem AtX.keep {w w':World} {a:Addr} {r:Ex} {A:OA} {c:Nat} (h:AtX w a r A c) (hb:∀ p:Addr,p.block=a.block→w'.cell? p=w.cell? p):AtX w' a r A c:=by
 obtain⟨k,n,nm,op,ks⟩:=r;obtain⟨a0,a1,a2,a3,a4⟩:=h;exact⟨(hb a rfl).trans a0,(hb ⟨a.block,a.off+1,none⟩ rfl).trans a1,(hb ⟨a.block,a.off+2,none⟩ rfl).trans a2,(hb ⟨a.block,a.off+3,none⟩ rfl).trans a3,(hb ⟨a.block,a.off+4,none⟩ rfl).trans a4⟩
theorem y2j {P Q:Nat→Prop} {w w':World} (ad:Addr) (hs:∀ p:Addr,P p.block→w'.cell? p=w.cell? p) (hp:P ad.block):∀ (l:List Ex) (i:Nat),(∀ r∈l,∀ A,KidsX P w A r→KidsX Q w' A r)→KidsXL P w ad i l→KidsXL Q w' ad i l
 | [],i,_,h=>by rw[KidsXL];trivial
 | r::l,i,ih,h=>by
   rw[KidsXL] at h ⊢;obtain⟨⟨A,c,h1,h2⟩,h3⟩:=h;exact⟨⟨A,c,h1.keep (fun p hpb=>hs p (by rw[hpb,z0p];exact hp)),ih r (by simp) A h2⟩,y2j ad hs hp l (i+1) (fun r hr=>ih r (by simp[hr])) h3⟩
theorem z4y {P Q:Nat→Prop} {w w':World} (hs:∀ p:Addr,P p.block→w'.cell? p=w.cell? p) (hPQ:∀ k,P k→Q k):∀ (r:Ex) (A:OA),KidsX P w A r→KidsX Q w' A r:=by
 intro r
 induction r using Ex.ind with
 | h k n nm op ks ih=>
   intro A h;rw[KidsX] at h ⊢
   rcases h with h | ⟨ad,rfl,hp,hl⟩
   ·exact .inl h
   ·exact .inr ⟨ad,rfl,hPQ _ hp,y2j ad hs hp ks 0 ih hl⟩
def LtX (B:Nat):Nat→Prop:=fun k=>k<B
theorem KidsX.next {w w':World} {A:OA} {r:Ex} (h:KidsX (LtX w.heap.size) w A r) (hb:Below w.heap.size w w'):KidsX (LtX w'.heap.size) w' A r:=z4y (fun _ h=>hb.cell h) (fun _ h=>Nat.lt_of_lt_of_le h hb.size) r A h
theorem z32 {w wr:World} {A:OA} {r x:Ex} {j:Nat} (h:KidsX (LtX w.heap.size) w A r) (hb:Below w.heap.size w wr) (hx:r.kids[j]?=some x):
  ∃ ad A' c',A=some ad∧ad.block<w.heap.size∧AtX wr (ad.add (j * 5)) x A' c'∧KidsX (LtX w.heap.size) w A' x:=by
 obtain⟨k0,n,nm,op,ks⟩:=r;rw[KidsX] at h
 rcases h with h | ⟨ad,rfl,hp,hl⟩
 ·simp[Ex.kids,h] at hx
 ·obtain⟨A',c,h1,h2⟩:=y1r hl hx
  rw[Nat.zero_add] at h1;exact⟨ad,A',c,rfl,hp,h1.keep (fun p hpb=>hb.cell (by rw[hpb,z0p];exact hp)),h2⟩
theorem z0t {α:Type} {l:List α} {k n:Nat} (hn:n=l.length) (h:k<n):∃ p,l[k]?=some p:=⟨_,List.getElem?_eq_getElem (by omega)⟩
mutual
def sizeX:Ex→Nat
 | .mk _ _ _ _ ks=>1+sizeXL ks
def sizeXL:List Ex→Nat
 | []=>0
 | r::rs=>sizeX r+sizeXL rs
end
theorem z22 {l:List Ex} {r:Ex} (h:r∈l):sizeX r≤sizeXL l:=by
 induction l with
 | nil=>cases h
 | cons x l ih=>
   rw[sizeXL]
   rcases List.mem_cons.1 h with rfl | h
   ·omega
   ·have:=ih h;omega
theorem z56 (l:List Ex):l.length≤sizeXL l:=by
 induction l with
 | nil=>simp[sizeXL]
 | cons x l ih=>rw[sizeXL,List.length_cons];cases x;rw[sizeX];omega
mutual
def nmX:Ex→Nat
 | .mk _ _ nm _ ks=>nm.length+nmXL ks
def nmXL:List Ex→Nat
 | []=>0
 | r::rs=>nmX r+nmXL rs
end
theorem z6n {l:List Ex} {r:Ex} (h:r∈l):nmX r≤nmXL l:=by
 induction l with
 | nil=>cases h
 | cons x l ih=>
   rw[nmXL]
   rcases List.mem_cons.1 h with rfl | h
   ·omega
   ·have:=ih h;omega
def Md.sz:Md→Nat
 | .one=>0
 | .some _=>0
 | .loop _ x=>sizeX x
def Md.nz:Md→Nat
 | .one=>0
 | .some _=>0
 | .loop _ x=>nmX x
theorem y4r (n:Int):sizeX (exNum n)=1∧nmX (exNum n)=0:=by simp[exNum,sizeX,sizeXL,nmX,nmXL]
theorem y4d (w:Bs):sizeX (exVar w)=1∧nmX (exVar w)=w.length:=by simp[exVar,sizeX,sizeXL,nmX,nmXL]
theorem y38 (x:Ex):sizeX (exNeg x)=1+sizeX x∧nmX (exNeg x)=nmX x:=by simp[exNeg,sizeX,sizeXL,nmX,nmXL]
theorem y4l (x:Ex):sizeX (exNot x)=1+sizeX x∧nmX (exNot x)=nmX x:=by simp[exNot,sizeX,sizeXL,nmX,nmXL]
theorem y37 (op:Bs) (x y:Ex):sizeX (exBin op x y)=1+(sizeX x+sizeX y)∧nmX (exBin op x y)=nmX x+nmX y:=by simp[exBin,sizeX,sizeXL,nmX,nmXL]
theorem RdE.sized {l:List Tok} (hM:∀ t∈l,t.word.length≤200) {m:Md} {i d:Nat} {r:Rs} (h:RdE l m i d r):∀ y j,r= .ok y j→m.pos→i≤l.length→sizeX y+i≤m.sz+j∧nmX y+200 * i≤m.nz+200 * j:=by
 have lt:∀ {i w},sg l i=w→w≠[]→i<l.length:=fun h hw=>sg_lt (by rw[h];exact hw)
 induction h with
 | deep=>intro y j e;cases e
 | par h1 h2 h3 h4 ih=>
   intro y j e _ hi
   cases e
   have a1:=lt h1 (by decide);have:=ih _ _ rfl (Nat.le_refl 1) (by omega);simp only[Md.sz,Md.nz] at this ⊢;omega
 | parOpen=>intro y j e;cases e
 | parBad=>intro y j e;cases e
 | neg h1 h2 h3 ih=>
   intro y j e _ hi
   cases e
   have a1:=lt h1 (by decide);have:=ih _ _ rfl trivial (by omega);rw[(y38 _).1,(y38 _).2];simp only[Md.sz,Md.nz] at this ⊢;omega
 | not h1 h2 h3 ih=>
   intro y j e _ hi
   cases e
   have a1:=lt h1 (by decide);have:=ih _ _ rfl trivial (by omega);rw[(y4l _).1,(y4l _).2];simp only[Md.sz,Md.nz] at this ⊢;omega
 | unBad=>intro y j e;cases e
 | num h1 h2=>
   intro y j e _ hi
   cases e
   rw[(y4r _).1,(y4r _).2];simp only[Md.sz,Md.nz];omega
 | var h1 h2=>
   intro y j e _ hi
   cases e
   have:=hM _ (List.mem_of_getElem? h1);rw[(y4d _).1,(y4d _).2];simp only[Md.sz,Md.nz];omega
 | none=>intro y j e;cases e
 | some h1 h2 ih1 ih2=>
   intro y j e hp hi;have a:=ih1 _ _ rfl trivial hi;have b:=ih2 _ _ e hp (h1.within trivial hi).2;simp only[Md.sz,Md.nz] at a b ⊢;omega
 | someBad=>intro y j e;cases e
 | stop=>
   intro y j e _ _
   cases e
   simp only[Md.sz,Md.nz];omega
 | opDeep=>intro y j e;cases e
 | @op m x i d y k r h1 h2 h3 h4 ih3 ih4=>
   intro y' j e hp hi;have a1:=z1j hp h1;have hpos:(Md.some (strong (sg l i)+1)).pos:=by show 1≤strong (sg l i)+1;omega
   have a:=ih3 _ _ rfl hpos (by omega);have b:=ih4 _ _ e hp (h3.within hpos (by omega)).2;simp only[Md.sz,Md.nz] at a b ⊢;rw[(y37 _ _ _).1,(y37 _ _ _).2] at b;omega
 | opBad=>intro y j e;cases e
theorem RdE.small {l:List Tok} (hM:∀ t∈l,t.word.length≤200) {m i d j:Nat} {y:Ex} (hm:1≤m) (hi:i≤l.length) (h:RdE l (.some m) i d (.ok y j)):sizeX y≤l.length∧nmX y≤200 * l.length:=by
 have a:=h.sized hM y j rfl hm hi;have b:=(h.within hm hi).2;simp only[Md.sz,Md.nz] at a;omega
noncomputable def eqB {α:Type} (a b:α):Bool:=@decide (a=b) (Classical.propDecidable _)
theorem z0x {α:Type} {a b:α} (h:a≠b):eqB a b=false:=@decide_eq_false _ (Classical.propDecidable _) h
theorem z0v {α:Type} {a b:α} (h:a=b):eqB a b=true:=@decide_eq_true _ (Classical.propDecidable _) h
theorem y41 {α:Type} {a b:α} (h:eqB a b=true):a=b:=@of_decide_eq_true _ (Classical.propDecidable _) h
theorem z9u {α:Type} {a b:α} (h:eqB a b=false):a≠b:=fun e=>by rw[z0v e] at h;cases h
theorem z3l {α:Type} {a b:List α} {k:Nat} {p:α} (h:a.take k=b.take k) (h1:a[k]?=some p) (h2:b[k]?=some p):a.take (k+1)=b.take (k+1):=by
 obtain⟨hk,e⟩:=List.getElem?_eq_some_iff.1 h1;obtain⟨hk',e'⟩:=List.getElem?_eq_some_iff.1 h2;rw[List.take_succ_eq_append_getElem hk,List.take_succ_eq_append_getElem hk',h,e,e']
theorem z4m {α:Type} {a b:List α} {k:Nat} {p q:α} (h1:a[k]?=some p) (h2:b[k]?=some q) (h:p≠q):a≠b:=by
 rintro rfl;rw[h1] at h2;injection h2 with h2;exact h h2
theorem z2s {x y:Bs} {X Y:BA} (hX:X=⟨x.toArray⟩) (hY:Y=⟨y.toArray⟩):(X.toList==Y.toList)=eqB x y:=by
 rw[toList_data,toList_data,hX,hY];by_cases h:x=y
 ·rw[z0v h,h];simp
 ·rw[z0x h];simpa using h
def AtXB (w:World) (a:Addr) (r:Ex) (A:OA) (c:Nat):Prop:=match r with
 | .mk k n nm op ks=>
   (∀ x:Bw w,x.at.cell? a=some (.int .i64 k))∧(∀ x:Bw w,x.at.cell? ⟨a.block,a.off+1,none⟩=some (.int .i64 n))∧(∀ x:Bw w,x.at.cell? ⟨a.block,a.off+2,none⟩=some (.string ⟨nm.toArray⟩))∧
   (∀ x:Bw w,x.at.cell? ⟨a.block,a.off+3,none⟩=some (.string ⟨op.toArray⟩))∧(∀ x:Bw w,x.at.cell? ⟨a.block,a.off+4,none⟩=some (.slice A ks.length c))
theorem AtX.later {w:World} {a:Addr} {r:Ex} {A:OA} {c:Nat} (h:AtX w a r A c):AtXB w a r A c:=by
 obtain⟨k,n,nm,op,ks⟩:=r;obtain⟨a0,a1,a2,a3,a4⟩:=h;exact⟨z06 a0,z06 a1,z06 a2,z06 a3,z06 a4⟩
theorem z0a (w:World) (o o':Obj):Below w.heap.size w ((w.alloc o).alloc o'):=(bR.alloc nR _).alloc (by simp) _
def SameXC (f:Nat) (x:Ex):Prop:=∀ (y:Ex) (A A':OA) (c c':Nat) (w:World),KidsX (LtX w.heap.size) w A x→KidsX (LtX w.heap.size) w A' y→sizeX x≤1000000→sizeX y≤1000000→
 Cz f #[valX x A c,valX y A' c'] w fun e w'=>e= .returned (.bool (eqB x y))∧Below w.heap.size w w'
theorem y6s (x:Ex):SameXC 22 x:=by
 induction x using Ex.ind with
 | h k n nm op ks ih=>
   intro y A A' c c' w hk hk' hs hs';obtain⟨k2,n2,nm2,op2,ks2⟩:=y;obtain⟨v,hv⟩:∃ v,v=eqB (Ex.mk k n nm op ks) (Ex.mk k2 n2 nm2 op2 ks2):=⟨_,rfl⟩;rw[←hv];rw[sizeX] at hs hs';have HV:=zz hv;simp only[valX];obtain⟨m,hm⟩:∃ m,m=ks.length:=⟨_,rfl⟩;obtain⟨m2,hm2⟩:∃ m,m=ks2.length:=⟨_,rfl⟩;have hmx:=z56 ks;have hm9:m≤1000000:=by omega
   obtain⟨X,hX⟩:∃ X:BA,X=⟨nm.toArray⟩:=⟨_,rfl⟩;obtain⟨X2,hX2⟩:∃ X:BA,X=⟨nm2.toArray⟩:=⟨_,rfl⟩;obtain⟨Y,hY⟩:∃ X:BA,X=⟨op.toArray⟩:=⟨_,rfl⟩;obtain⟨Y2,hY2⟩:∃ X:BA,X=⟨op2.toArray⟩:=⟨_,rfl⟩;have gx:=z2s hX hX2;have gy:=z2s hY hY2;rw[←hm,←hm2,←hX,←hX2,←hY,←hY2];have HK:=zz hk;have HK':=zz hk';have HI:=zz ih;have HS:=zz hs;have HS':=zz hs';have HM:=zz hm;have HM':=zz hm2;clear hv ih hk hk' hs hs' hX hX2 hY hY2 hm hm2 hmx;by_cases f1:k=k2
   ·by_cases f2:n=n2
    ·by_cases f3:nm=nm2
     ·by_cases f4:op=op2
      ·by_cases f6:m=m2
       ·have HX:Hid (∀ b,eqB ks ks2=b→v=b):=zz (by
         rintro b rfl;rw[HV.out];by_cases hkk:ks=ks2
         ·rw[z0v hkk,z0v (by rw[f1,f2,f3,f4,hkk])]
         ·rw[z0x hkk,z0x (fun h=>hkk (by injection h))])
        have g1:(k != k2)=false:=by simp[f1]
        have g2:(n != n2)=false:=by simp[f2]
        rw[z0v f3] at gx;rw[z0v f4] at gy;have g6:((m:Int) != (m2:Int))=false:=by simp[f6]
        have g7:(m != m2)=false:=by simp[f6]
        subst f1 f2 f6;clear f3 f4;obtain⟨o1,ho1⟩:∃ o:Obj,o= .cells #[k,n,X,Y,.slice A m c] 38:=⟨_,rfl⟩;obtain⟨o2,ho2⟩:∃ o:Obj,o= .cells #[k,n,X2,Y2,.slice A' m c'] 38:=⟨_,rfl⟩;have hbo:Below w.heap.size w ((w.alloc o1).alloc o2):=z0a w o1 o2;have hc5:((w.alloc o1).alloc o2).cell? ⟨w.heap.size,4,none⟩=some (.slice A m c):=by rw[ho1];simp[go_sem]
        have hd5:((w.alloc o1).alloc o2).cell? ⟨w.heap.size+1,4,none⟩=some (.slice A' m c'):=by rw[ho2];simp[go_sem]
        have hsz:((w.alloc o1).alloc o2).heap.size=w.heap.size+2:=by simp
        obtain⟨W2,hW2⟩:∃ W2,W2=(w.alloc o1).alloc o2:=⟨_,rfl⟩;have HW2:Hid (W2=(w.alloc (.cells #[k,n,X,Y,.slice A m c] 38)).alloc (.cells #[k,n,X2,Y2,.slice A' m c'] 38)):=zz (by rw[hW2,ho1,ho2]);rw[←hW2] at hbo hc5 hd5 hsz;have HBO:=zz hbo;have HC5:=zz hc5;have HD5:=zz hd5;clear ho1 ho2 hW2 hbo hc5 hd5;go_enter Tryz.func22,Tryz.ntmps22;go_wp2
        go_loopw [5] (fun i wr=>∃ j:Nat,j≤m∧i= .int .i64 j∧ks.take j=ks2.take j∧Below (w.heap.size+2) W2 wr) (fun i _=>m - (intOf i).toNat)
        case atStart=>exact⟨0,by omega,rfl,rfl,by rw[HW2.out];exact Below.refl _ _⟩
        case round=>
         obtain⟨j,hj,rfl,ht,hb1⟩:=hrel;have hb:Below w.heap.size w wr:=HBO.out.trans (hb1.mono (by omega));have c5:wr.cell? ⟨w.heap.size,4,none⟩=some (.slice A m c):=(hb1.cell (p:=⟨w.heap.size,4,none⟩) (by show w.heap.size<w.heap.size+2;omega)).trans HC5.out;have d5:wr.cell? ⟨w.heap.size+1,4,none⟩=some (.slice A' m c'):=(hb1.cell (p:=⟨w.heap.size+1,4,none⟩) (by show w.heap.size+1<w.heap.size+2;omega)).trans HD5.out;have HB1:=zz hb1;have HT:=zz ht;clear ht hb1;by_cases a:j<m
         ·obtain⟨r,hr⟩:=z0t HM.out a
          obtain⟨r',hr'⟩:=z0t HM'.out a;obtain⟨ad,B,b,rfl,hp,h9,hkr⟩:=z32 HK.out hb hr;obtain⟨ad',B',b',rfl,hp',h9',hkr'⟩:=z32 HK'.out hb hr';have hmem:=List.mem_of_getElem? hr;have hsz1:=z22 hmem;have hsz2:=z22 (List.mem_of_getElem? hr')
          have K:∀ x:Bw wr,Cz 22 #[valX r B b,valX r' B' b'] x.at fun e w'=>e= .returned (.bool (eqB r r'))∧Below x.at.heap.size x.at w':=fun x=>
           HI.out r hmem r' B B' b b' x.at (hkr.next (hb.trans (x.2.mono hb.size))) (hkr'.next (hb.trans (x.2.mono hb.size))) (by have:=HS.out;omega) (by have:=HS'.out;omega)
          obtain⟨v2,hv2⟩:∃ v2,v2=eqB r r':=⟨_,rfl⟩;rw[←hv2] at K;have HV2:=zz hv2;have HR:=zz hr;have HR':=zz hr';have q9:=h9.later;have q9':=h9'.later;have e5:=z06 c5;have f5:=z06 d5;clear hr hr' hv2 hkr hkr' hmem hsz1 hsz2 h9 h9';obtain⟨k',n',nm',op',ks1⟩:=r;obtain⟨k3,n3,nm3,op3,ks3⟩:=r';simp only[valX] at K;obtain⟨c0,c1,c2,c3,c4⟩:=q9;obtain⟨d0,d1,d2,d3,d4⟩:=q9';obtain⟨M1,hM1⟩:∃ M:BA,M=⟨nm'.toArray⟩:=⟨_,rfl⟩;obtain⟨M2,hM2⟩:∃ M:BA,M=⟨op'.toArray⟩:=⟨_,rfl⟩;obtain⟨M3,hM3⟩:∃ M:BA,M=⟨nm3.toArray⟩:=⟨_,rfl⟩;obtain⟨M4,hM4⟩:∃ M:BA,M=⟨op3.toArray⟩:=⟨_,rfl⟩;obtain⟨l1,hl1⟩:∃ l,l=ks1.length:=⟨_,rfl⟩;obtain⟨l2,hl2⟩:∃ l,l=ks3.length:=⟨_,rfl⟩;rw[←hM1,←hM2,←hM3,←hM4,←hl1,←hl2] at K;rw[←hM1] at c2;rw[←hM2] at c3;rw[←hl1] at c4;rw[←hM3] at d2;rw[←hM4] at d3;rw[←hl2] at d4;have HKC:=zz K;clear K hM1 hM2 hM3 hM4 hl1 hl2
          cases v2 with
          | true=>
            have HX:Hid (ks.take (j+1)=ks2.take (j+1)):=zz (by
             have:=y41 HV2.out.symm;rw[←this] at HR';exact z3l HT.out HR.out HR'.out)
            go_wp2;have hne:=z1i wr;refine z0i (by kernel_rfl) (by kernel_rfl) ?_
            repeat (go_big_quiet_step ((go_at_call 22;with_reducible exact z4s (HKC.out _))))
            refine wpQuiet_nil ?_;intro w3 hw3;obtain⟨m3,rfl⟩:=hw3;obtain⟨w4,hw4⟩:∃ x,x=m3.at:=⟨_,rfl⟩;have HB3:Hid (Below wr.heap.size wr w4):=zz (by rw[hw4];exact m3.2);rw[←hw4];clear hw4;go_wp2
            go_roundw
            case rel=>exact⟨j+1,by omega,by go_num,HX.out,HB1.out.trans (HB3.out.mono (by have:=HB1.out.size;omega))⟩
            case measure=>simp[intOf];omega
          | false=>
            have HX2:Hid (v=false):=zz (HX.out _ (z0x (z4m HR.out HR'.out (z9u HV2.out.symm))));go_wp2;have hne:=z1i wr;refine z0i (by kernel_rfl) (by kernel_rfl) ?_
            repeat (go_big_quiet_step ((go_at_call 22;with_reducible exact z4s (HKC.out _))))
            refine wpQuiet_nil ?_;intro w3 hw3;obtain⟨m3,rfl⟩:=hw3;obtain⟨w4,hw4⟩:∃ x,x=m3.at:=⟨_,rfl⟩;have HB3:Hid (Below wr.heap.size wr w4):=zz (by rw[hw4];exact m3.2);rw[←hw4];clear hw4;go_wp2;go_ret;exact⟨z0c HX2.out.symm,hb.trans (HB3.out.mono hb.size)⟩
         ·have HX2:Hid (v=true):=by
           apply Lib.hid;apply HX.out;have:=HT.out;rw[List.take_of_length_le (by have:=HM.out;omega),List.take_of_length_le (by have:=HM'.out;omega)] at this;exact z0v this
          go_wp2;go_ret;exact⟨z0c HX2.out.symm,hb⟩
       ·have HX:Hid (v=false):=zz (by rw[HV.out];exact z0x (fun h=>f6 (by rw[HM.out,HM'.out];congr 1;injection h)))
        have g1:(k != k2)=false:=by simp[f1]
        have g2:(n != n2)=false:=by simp[f2]
        rw[z0v f3] at gx;rw[z0v f4] at gy;have g6:((m:Int) != (m2:Int))=true:=by simp;omega
        have g7:(m != m2)=true:=by simp[f6]
        subst f1 f2;clear f3 f4 f6;go_enter Tryz.func22,Tryz.ntmps22;go_wp2;go_ret;exact⟨z0c HX.out.symm,z0a _ _ _⟩
      ·have HX:Hid (v=false):=zz (by rw[HV.out];exact z0x (fun h=>f4 (by injection h)))
       have g1:(k != k2)=false:=by simp[f1]
       have g2:(n != n2)=false:=by simp[f2]
       rw[z0v f3] at gx;rw[z0x f4] at gy;subst f1 f2;clear f3 f4;go_enter Tryz.func22,Tryz.ntmps22;go_wp2;go_ret;exact⟨z0c HX.out.symm,z0a _ _ _⟩
     ·have HX:Hid (v=false):=zz (by rw[HV.out];exact z0x (fun h=>f3 (by injection h)))
      have g1:(k != k2)=false:=by simp[f1]
      have g2:(n != n2)=false:=by simp[f2]
      rw[z0x f3] at gx;subst f1 f2;clear f3;go_enter Tryz.func22,Tryz.ntmps22;go_wp2;go_ret;exact⟨z0c HX.out.symm,z0a _ _ _⟩
    ·have HX:Hid (v=false):=zz (by rw[HV.out];exact z0x (fun h=>f2 (by injection h)))
     have g1:(k != k2)=false:=by simp[f1]
     have g2:(n != n2)=true:=by simp[f2]
     subst f1;clear f2;go_enter Tryz.func22,Tryz.ntmps22;go_wp2;go_ret;exact⟨z0c HX.out.symm,z0a _ _ _⟩
   ·have HX:Hid (v=false):=zz (by rw[HV.out];exact z0x (fun h=>f1 (by injection h)))
    have g1:(k != k2)=true:=by simp[f1]
    clear f1;go_enter Tryz.func22,Tryz.ntmps22;go_wp2;go_ret;exact⟨z0c HX.out.symm,z0a _ _ _⟩
theorem z0o (S:BA) (c:Bs) (b:Bool) (h:decide (S.data.toList=c)=b):(S.toList==c)=b:=by
 rw[toList_data,←h,Bool.eq_iff_iff];simp
theorem z42 (S:BA) (w:World):Cz 136 #[S] w fun e w'=>e= .returned (.int .i64 (strong S.data.toList))∧w=w':=by
 obtain⟨v,hv⟩:∃ v:Int,v=strong S.data.toList:=⟨_,rfl⟩;rw[←hv];by_cases h0:S.data.toList=[124,124]
 ·have b0:=z0o S _ _ (decide_eq_true h0)
  have HX:Hid (v=1):=zz (by rw[hv,h0];decide);clear hv h0;go_enter Tryz.func136,Tryz.ntmps136;go_wp2;go_ret;exact⟨z0m HX.out.symm,rfl⟩
 have b0:=z0o S _ _ (decide_eq_false h0);by_cases h1:S.data.toList=[38,38]
 ·have b1:=z0o S _ _ (decide_eq_true h1)
  have HX:Hid (v=2):=zz (by rw[hv,h1];decide);clear hv h0 h1;go_enter Tryz.func136,Tryz.ntmps136;go_wp2;go_ret;exact⟨z0m HX.out.symm,rfl⟩
 have b1:=z0o S _ _ (decide_eq_false h1);by_cases h2:S.data.toList=[61,61]
 ·have b2:=z0o S _ _ (decide_eq_true h2)
  have HX:Hid (v=3):=zz (by rw[hv,h2];decide);clear hv h0 h1 h2;go_enter Tryz.func136,Tryz.ntmps136;go_wp2;go_ret;exact⟨z0m HX.out.symm,rfl⟩
 have b2:=z0o S _ _ (decide_eq_false h2);by_cases h3:S.data.toList=[33,61]
 ·have b3:=z0o S _ _ (decide_eq_true h3)
  have HX:Hid (v=3):=zz (by rw[hv,h3];decide);clear hv h0 h1 h2 h3;go_enter Tryz.func136,Tryz.ntmps136;go_wp2;go_ret;exact⟨z0m HX.out.symm,rfl⟩
 have b3:=z0o S _ _ (decide_eq_false h3);by_cases h4:S.data.toList=[60]
 ·have b4:=z0o S _ _ (decide_eq_true h4)
  have HX:Hid (v=4):=zz (by rw[hv,h4];decide);clear hv h0 h1 h2 h3 h4;go_enter Tryz.func136,Tryz.ntmps136;go_wp2;go_ret;exact⟨z0m HX.out.symm,rfl⟩
 have b4:=z0o S _ _ (decide_eq_false h4);by_cases h5:S.data.toList=[62]
 ·have b5:=z0o S _ _ (decide_eq_true h5)
  have HX:Hid (v=4):=zz (by rw[hv,h5];decide);clear hv h0 h1 h2 h3 h4 h5;go_enter Tryz.func136,Tryz.ntmps136;go_wp2;go_ret;exact⟨z0m HX.out.symm,rfl⟩
 have b5:=z0o S _ _ (decide_eq_false h5);by_cases h6:S.data.toList=[60,61]
 ·have b6:=z0o S _ _ (decide_eq_true h6)
  have HX:Hid (v=4):=zz (by rw[hv,h6];decide);clear hv h0 h1 h2 h3 h4 h5 h6;go_enter Tryz.func136,Tryz.ntmps136;go_wp2;go_ret;exact⟨z0m HX.out.symm,rfl⟩
 have b6:=z0o S _ _ (decide_eq_false h6);by_cases h7:S.data.toList=[62,61]
 ·have b7:=z0o S _ _ (decide_eq_true h7)
  have HX:Hid (v=4):=zz (by rw[hv,h7];decide);clear hv h0 h1 h2 h3 h4 h5 h6 h7;go_enter Tryz.func136,Tryz.ntmps136;go_wp2;go_ret;exact⟨z0m HX.out.symm,rfl⟩
 have b7:=z0o S _ _ (decide_eq_false h7);by_cases h8:S.data.toList=[43]
 ·have b8:=z0o S _ _ (decide_eq_true h8)
  have HX:Hid (v=5):=zz (by rw[hv,h8];decide);clear hv h0 h1 h2 h3 h4 h5 h6 h7 h8;go_enter Tryz.func136,Tryz.ntmps136;go_wp2;go_ret;exact⟨z0m HX.out.symm,rfl⟩
 have b8:=z0o S _ _ (decide_eq_false h8);by_cases h9:S.data.toList=[45]
 ·have b9:=z0o S _ _ (decide_eq_true h9)
  have HX:Hid (v=5):=zz (by rw[hv,h9];decide);clear hv h0 h1 h2 h3 h4 h5 h6 h7 h8 h9;go_enter Tryz.func136,Tryz.ntmps136;go_wp2;go_ret;exact⟨z0m HX.out.symm,rfl⟩
 have b9:=z0o S _ _ (decide_eq_false h9);by_cases h10:S.data.toList=[42]
 ·have b10:=z0o S _ _ (decide_eq_true h10)
  have HX:Hid (v=6):=zz (by rw[hv,h10];decide);clear hv h0 h1 h2 h3 h4 h5 h6 h7 h8 h9 h10;go_enter Tryz.func136,Tryz.ntmps136;go_wp2;go_ret;exact⟨z0m HX.out.symm,rfl⟩
 have b10:=z0o S _ _ (decide_eq_false h10);by_cases h11:S.data.toList=[47]
 ·have b11:=z0o S _ _ (decide_eq_true h11)
  have HX:Hid (v=6):=zz (by rw[hv,h11];decide);clear hv h0 h1 h2 h3 h4 h5 h6 h7 h8 h9 h10 h11;go_enter Tryz.func136,Tryz.ntmps136;go_wp2;go_ret;exact⟨z0m HX.out.symm,rfl⟩
 have b11:=z0o S _ _ (decide_eq_false h11);by_cases h12:S.data.toList=[37]
 ·have b12:=z0o S _ _ (decide_eq_true h12)
  have HX:Hid (v=6):=zz (by rw[hv,h12];decide);clear hv h0 h1 h2 h3 h4 h5 h6 h7 h8 h9 h10 h11 h12;go_enter Tryz.func136,Tryz.ntmps136;go_wp2;go_ret;exact⟨z0m HX.out.symm,rfl⟩
 have b12:=z0o S _ _ (decide_eq_false h12);have HX:Hid (v=0):=zz (by rw[hv];unfold strong;simp[h0,h1,h2,h3,h4,h5,h6,h7,h8,h9,h10,h11,h12]);clear hv h0 h1 h2 h3 h4 h5 h6 h7 h8 h9 h10 h11 h12;go_enter Tryz.func136,Tryz.ntmps136;go_wp2;go_ret;exact⟨z0m HX.out.symm,rfl⟩
def TkAt (w:World) (a:Addr) (t:Tok) (A:OA) (c:Nat):Prop:=
 w.cell? a=some (.int .i64 t.kind)∧w.cell? ⟨a.block,a.off+1,none⟩=some (.string ⟨t.word.toArray⟩)∧w.cell? ⟨a.block,a.off+2,none⟩=some (.int .i64 t.n)∧w.cell? ⟨a.block,a.off+3,none⟩=some (.slice A t.parts.length c)∧w.cell? ⟨a.block,a.off+4,none⟩=some (.int .i64 t.pl)
def TokRow (B:Nat) (w:World) (A:OA) (l:List Tok):Prop:=∀ (k:Nat) (t:Tok),l[k]?=some t→∃ ad A' c',A=some ad∧ad.block<B∧TkAt w (ad.add (k * 5)) t A' c'
theorem TkAt.keep {w w':World} {a:Addr} {t:Tok} {A:OA} {c:Nat} (h:TkAt w a t A c) (hb:∀ p:Addr,p.block=a.block→w'.cell? p=w.cell? p):TkAt w' a t A c:=by
 obtain⟨a0,a1,a2,a3,a4⟩:=h;exact⟨(hb a rfl).trans a0,(hb ⟨a.block,a.off+1,none⟩ rfl).trans a1,(hb ⟨a.block,a.off+2,none⟩ rfl).trans a2,(hb ⟨a.block,a.off+3,none⟩ rfl).trans a3,(hb ⟨a.block,a.off+4,none⟩ rfl).trans a4⟩
theorem TokRow.keep {B:Nat} {w w':World} {A:OA} {l:List Tok} (h:TokRow B w A l) (hb:∀ p:Addr,p.block<B→w'.cell? p=w.cell? p):TokRow B w' A l:=fun k t ht=>by
 obtain⟨ad,A',c',e,hlt,h5⟩:=h k t ht;exact⟨ad,A',c',e,hlt,h5.keep fun p hp=>hb p (by rw[hp,z0p];exact hlt)⟩
structure RdrX (b:Nat) (w:World) (A:OA) (n c:Nat) (l:List Tok) (k o:Nat):Prop where
 c0:w.cell? ⟨b,0,none⟩=some (.slice A n c)
 c1:w.cell? ⟨b,1,none⟩=some (.int .i64 k)
 c2:w.cell? ⟨b,2,none⟩=some (.int .i64 o)
 f1:w.frozen? ⟨b,1,none⟩=false
 f2:w.frozen? ⟨b,2,none⟩=false
 row:TokRow b w A l
 len:n=l.length
theorem RdrX.lt {b:Nat} {w:World} {A:OA} {n c:Nat} {l:List Tok} {k o:Nat} (h:RdrX b w A n c l k o):b<w.heap.size:=World.block_lt_of_cell? w _ h.c0
theorem RdrX.next {b:Nat} {w w':World} {A:OA} {n c:Nat} {l:List Tok} {k o:Nat} (h:RdrX b w A n c l k o) (hb:Below w.heap.size w w'):RdrX b w' A n c l k o:=
 ⟨(hb.cell (p:=⟨b,0,none⟩) h.lt).trans h.c0,(hb.cell (p:=⟨b,1,none⟩) h.lt).trans h.c1,(hb.cell (p:=⟨b,2,none⟩) h.lt).trans h.c2,(hb.frozen (p:=⟨b,1,none⟩) h.lt).trans h.f1,(hb.frozen (p:=⟨b,2,none⟩) h.lt).trans h.f2,
   h.row.keep fun _ hp=>hb.cell (Nat.lt_trans hp h.lt),h.len⟩
theorem RdrX.place {b:Nat} {w:World} {A:OA} {n c:Nat} {l:List Tok} {k o:Nat} (h:RdrX b w A n c l k o) (j:Nat):RdrX b (w.setCell ⟨b,1,none⟩ (.int .i64 j)) A n c l j o:=by
 have hs:(w.cell? ⟨b,1,none⟩).isSome=true:=by rw[h.c1];rfl
 refine⟨?_,?_,?_,?_,?_,h.row.keep fun p hp=>World.cell?_of_block (Below.heap_setCell _ _ _ _ (by show p.block≠b;omega)),h.len⟩
 ·rw[World.cell?_setCell_other _ _ _ _ (by simp)];exact h.c0
 ·exact World.cell?_setCell_same' _ _ _ hs
 ·rw[World.cell?_setCell_other _ _ _ _ (by simp)];exact h.c2
 ·rw[World.frozen?_setCell];exact h.f1
 ·rw[World.frozen?_setCell];exact h.f2
theorem RdrX.fault {b:Nat} {w:World} {A:OA} {n c:Nat} {l:List Tok} {k o:Nat} (h:RdrX b w A n c l k o) (j:Nat):RdrX b (w.setCell ⟨b,2,none⟩ (.int .i64 j)) A n c l k j:=by
 have hs:(w.cell? ⟨b,2,none⟩).isSome=true:=by rw[h.c2];rfl
 refine⟨?_,?_,?_,?_,?_,h.row.keep fun p hp=>World.cell?_of_block (Below.heap_setCell _ _ _ _ (by show p.block≠b;omega)),h.len⟩
 ·rw[World.cell?_setCell_other _ _ _ _ (by simp)];exact h.c0
 ·rw[World.cell?_setCell_other _ _ _ _ (by simp)];exact h.c1
 ·exact World.cell?_setCell_same' _ _ _ hs
 ·rw[World.frozen?_setCell];exact h.f1
 ·rw[World.frozen?_setCell];exact h.f2
def sgX (l:List Tok) (k o:Nat):Bs:=if o=0 then sg l k else []
theorem nilB:(⟨([]:Bs).toArray⟩:BA)=⟨#[]⟩:=rfl
theorem y07 (b:Nat) (w:World) (A:OA) (n c:Nat) (l:List Tok) (k o:Nat) (h:RdrX b w A n c l k o) (ho:o≤100):
  Cz 159 #[pP b] w fun e w'=>e= .returned (.string ⟨(sgX l k o).toArray⟩)∧Below w.heap.size w w':=by
 obtain⟨S,hS⟩:∃ S:BA,S=⟨(sgX l k o).toArray⟩:=⟨_,rfl⟩;rw[←hS];unfold sgX at hS;obtain⟨c0,c1,c2,_,_,row,len⟩:=h
 suffices hs:Cz 159 #[pP b] w fun e w'=>e= .returned (.string S)∧Hid (Below w.heap.size w w') from hs.mono fun e w' ⟨a,hm⟩=>⟨a,hm.out⟩
 by_cases o0:o=0
 ·subst o0
  rw[if_pos rfl] at hS;by_cases a:k<n
  ·have hkl:k<l.length:=by omega
   obtain⟨ad,A',c',rfl,_,h5⟩:=row k l[k] (List.getElem?_eq_getElem hkl);unfold sg at hS;rw[List.getElem?_eq_getElem hkl] at hS;dsimp only at hS;have d0:=h5.1;have d1:=h5.2.1;clear h5;have b1:decide ((k:Int)<(n:Int))=true:=by simp;omega
   generalize l[k]=t at hS d0 d1;by_cases e:t.kind=4
   ·rw[if_pos e] at hS
    rw[←hS] at d1;rw[e] at d0;clear hS row len e hkl;go_enter Tryz.func159,Tryz.ntmps159;go_wp2;go_quiet (fail);go_wp2;go_quiet (fail);go_wp2;go_ret;exact⟨rfl,zz (z0e (z0e bR _) _)⟩
   ·rw[if_neg e,nilB] at hS
    subst hS;obtain⟨K,hK⟩:∃ K:Int,K=t.kind:=⟨_,rfl⟩;rw[←hK] at d0 e;have t1:(K==4)=false:=by simpa using e
    clear row len e hkl hK;go_enter Tryz.func159,Tryz.ntmps159;go_wp2;go_quiet (fail);go_wp2;go_ret;exact⟨rfl,zz (z0e bR _)⟩
  ·rw[z7p (by omega),nilB] at hS
   subst hS;have b1:decide ((k:Int)<(n:Int))=false:=by simp;omega
   have b2:decide (k<n)=false:=by simp;omega
   clear row len;go_enter Tryz.func159,Tryz.ntmps159;go_wp2;go_quiet (fail);go_wp2;go_ret;exact⟨rfl,zz (z0e bR _)⟩
 ·rw[if_neg o0,nilB] at hS
  subst hS;have b0:((o:Int)==0)=false:=by simp;omega
  have b0':(o==0)=false:=by simp;omega
  clear o0 row len;go_enter Tryz.func159,Tryz.ntmps159;go_wp2;go_quiet (fail);go_wp2;go_ret;exact⟨rfl,zz (z0e bR _)⟩
theorem y18 (er:Nat) (b:Nat) (w:World) (A:OA) (n c:Nat) (l:List Tok) (k o:Nat) (h:RdrX b w A n c l k o) (ho:o≤100):
  Cz 160 #[pP b,er] w fun e w'=>e= .returned (.tuple #[])∧RdrX b w' A n c l k (if o=0 then er else o)∧w.grownBy w' (some b):=by
 have H:=zz h;obtain⟨c0,c1,c2,_,f2,_,_⟩:=h;by_cases o0:o=0
 ·subst o0
  rw[if_pos rfl];go_enter Tryz.func160,Tryz.ntmps160;go_wp2
  go_end0
  exact⟨rfl,H.out.fault er,⟨rfl,rfl,rfl,by simp[World.setCell],fun k _ hn=>Below.heap_setCell _ _ _ _ (by intro e;exact hn (by rw[e]))⟩⟩
 ·rw[if_neg o0]
  have b0:((o:Int)==0)=false:=by simp;omega
  have b0':(o==0)=false:=by simp;omega
  clear o0;go_enter Tryz.func160,Tryz.ntmps160;go_wp2
  go_end0
  exact⟨rfl,H.out,⟨rfl,rfl,rfl,Nat.le_refl _,fun _ _ _=>rfl⟩⟩
theorem z3o (S:BA) (w:World):Cz 154 #[S] w fun e w'=>e= .returned (.int .i64 (strong S.data.toList))∧w=w':=by
 obtain⟨v,hv⟩:∃ v:Int,v=strong S.data.toList:=⟨_,rfl⟩;rw[←hv];by_cases h0:S.data.toList=[124,124]
 ·have b0:=z0o S _ _ (decide_eq_true h0)
  have HX:Hid (v=1):=zz (by rw[hv,h0];decide);clear hv h0;go_enter Tryz.func154,Tryz.ntmps154;go_wp2;go_ret;exact⟨z0m HX.out.symm,rfl⟩
 have b0:=z0o S _ _ (decide_eq_false h0);by_cases h1:S.data.toList=[38,38]
 ·have b1:=z0o S _ _ (decide_eq_true h1)
  have HX:Hid (v=2):=zz (by rw[hv,h1];decide);clear hv h0 h1;go_enter Tryz.func154,Tryz.ntmps154;go_wp2;go_ret;exact⟨z0m HX.out.symm,rfl⟩
 have b1:=z0o S _ _ (decide_eq_false h1);by_cases h2:S.data.toList=[61,61]
 ·have b2:=z0o S _ _ (decide_eq_true h2)
  have HX:Hid (v=3):=zz (by rw[hv,h2];decide);clear hv h0 h1 h2;go_enter Tryz.func154,Tryz.ntmps154;go_wp2;go_ret;exact⟨z0m HX.out.symm,rfl⟩
 have b2:=z0o S _ _ (decide_eq_false h2);by_cases h3:S.data.toList=[33,61]
 ·have b3:=z0o S _ _ (decide_eq_true h3)
  have HX:Hid (v=3):=zz (by rw[hv,h3];decide);clear hv h0 h1 h2 h3;go_enter Tryz.func154,Tryz.ntmps154;go_wp2;go_ret;exact⟨z0m HX.out.symm,rfl⟩
 have b3:=z0o S _ _ (decide_eq_false h3);by_cases h4:S.data.toList=[60]
 ·have b4:=z0o S _ _ (decide_eq_true h4)
  have HX:Hid (v=4):=zz (by rw[hv,h4];decide);clear hv h0 h1 h2 h3 h4;go_enter Tryz.func154,Tryz.ntmps154;go_wp2;go_ret;exact⟨z0m HX.out.symm,rfl⟩
 have b4:=z0o S _ _ (decide_eq_false h4);by_cases h5:S.data.toList=[62]
 ·have b5:=z0o S _ _ (decide_eq_true h5)
  have HX:Hid (v=4):=zz (by rw[hv,h5];decide);clear hv h0 h1 h2 h3 h4 h5;go_enter Tryz.func154,Tryz.ntmps154;go_wp2;go_ret;exact⟨z0m HX.out.symm,rfl⟩
 have b5:=z0o S _ _ (decide_eq_false h5);by_cases h6:S.data.toList=[60,61]
 ·have b6:=z0o S _ _ (decide_eq_true h6)
  have HX:Hid (v=4):=zz (by rw[hv,h6];decide);clear hv h0 h1 h2 h3 h4 h5 h6;go_enter Tryz.func154,Tryz.ntmps154;go_wp2;go_ret;exact⟨z0m HX.out.symm,rfl⟩
 have b6:=z0o S _ _ (decide_eq_false h6);by_cases h7:S.data.toList=[62,61]
 ·have b7:=z0o S _ _ (decide_eq_true h7)
  have HX:Hid (v=4):=zz (by rw[hv,h7];decide);clear hv h0 h1 h2 h3 h4 h5 h6 h7;go_enter Tryz.func154,Tryz.ntmps154;go_wp2;go_ret;exact⟨z0m HX.out.symm,rfl⟩
 have b7:=z0o S _ _ (decide_eq_false h7);by_cases h8:S.data.toList=[43]
 ·have b8:=z0o S _ _ (decide_eq_true h8)
  have HX:Hid (v=5):=zz (by rw[hv,h8];decide);clear hv h0 h1 h2 h3 h4 h5 h6 h7 h8;go_enter Tryz.func154,Tryz.ntmps154;go_wp2;go_ret;exact⟨z0m HX.out.symm,rfl⟩
 have b8:=z0o S _ _ (decide_eq_false h8);by_cases h9:S.data.toList=[45]
 ·have b9:=z0o S _ _ (decide_eq_true h9)
  have HX:Hid (v=5):=zz (by rw[hv,h9];decide);clear hv h0 h1 h2 h3 h4 h5 h6 h7 h8 h9;go_enter Tryz.func154,Tryz.ntmps154;go_wp2;go_ret;exact⟨z0m HX.out.symm,rfl⟩
 have b9:=z0o S _ _ (decide_eq_false h9);by_cases h10:S.data.toList=[42]
 ·have b10:=z0o S _ _ (decide_eq_true h10)
  have HX:Hid (v=6):=zz (by rw[hv,h10];decide);clear hv h0 h1 h2 h3 h4 h5 h6 h7 h8 h9 h10;go_enter Tryz.func154,Tryz.ntmps154;go_wp2;go_ret;exact⟨z0m HX.out.symm,rfl⟩
 have b10:=z0o S _ _ (decide_eq_false h10);by_cases h11:S.data.toList=[47]
 ·have b11:=z0o S _ _ (decide_eq_true h11)
  have HX:Hid (v=6):=zz (by rw[hv,h11];decide);clear hv h0 h1 h2 h3 h4 h5 h6 h7 h8 h9 h10 h11;go_enter Tryz.func154,Tryz.ntmps154;go_wp2;go_ret;exact⟨z0m HX.out.symm,rfl⟩
 have b11:=z0o S _ _ (decide_eq_false h11);by_cases h12:S.data.toList=[37]
 ·have b12:=z0o S _ _ (decide_eq_true h12)
  have HX:Hid (v=6):=zz (by rw[hv,h12];decide);clear hv h0 h1 h2 h3 h4 h5 h6 h7 h8 h9 h10 h11 h12;go_enter Tryz.func154,Tryz.ntmps154;go_wp2;go_ret;exact⟨z0m HX.out.symm,rfl⟩
 have b12:=z0o S _ _ (decide_eq_false h12);have HX:Hid (v=0):=zz (by rw[hv];unfold strong;simp[h0,h1,h2,h3,h4,h5,h6,h7,h8,h9,h10,h11,h12]);clear hv h0 h1 h2 h3 h4 h5 h6 h7 h8 h9 h10 h11 h12;go_enter Tryz.func154,Tryz.ntmps154;go_wp2;go_ret;exact⟨z0m HX.out.symm,rfl⟩
theorem z0n {b:Nat} {w w1 w2:World} (h:w.grownBy w1 (some b)) (k:w1.grownBy w2 (some b)):w.grownBy w2 (some b):=
 ⟨k.os.trans h.os,k.tape.trans h.tape,k.output.trans h.output,Nat.le_trans h.size k.size,fun i hi hn=>(k.block i (Nat.lt_of_lt_of_le hi h.size) hn).trans (h.block i hi hn)⟩
theorem z0g {b:Nat} {w w1:World} (h:Below w.heap.size w w1):w.grownBy w1 (some b):=⟨h.os,h.tape,h.output,h.size,fun k hk _=>h.block k hk⟩
theorem z01 (b o:Nat) (w:World) (u:Value):w.grownBy (w.setCell ⟨b,o,none⟩ u) (some b):=⟨rfl,rfl,rfl,by simp[World.setCell],fun k _ hn=>Below.heap_setCell _ _ _ _ (fun e=>hn (by rw[e]))⟩
theorem z2c {b:Nat} {w W:World} (h:w.grownBy W (some b)) {c:Nat} (hc:w.heap.size≤c) (j:Nat) (u:Value):w.grownBy (W.setCell ⟨c,j,none⟩ u) (some b):=
 ⟨h.os,h.tape,h.output,by simpa[World.setCell] using h.size,fun k hk hn=>(Below.heap_setCell _ _ _ _ (by show k≠c;omega)).trans (h.block k hk hn)⟩
theorem z2n {b:Nat} {w W:World} (h:w.grownBy W (some b)) {c:Nat} (hc:w.heap.size≤c) (v0 v1 v2 v3 v4:Value):w.grownBy (put5 W c v0 v1 v2 v3 v4) (some b):=
 z2c (z2c (z2c (z2c (z2c h hc _ _) hc _ _) hc _ _) hc _ _) hc _ _
theorem y2v {b:Nat} {w W:World} (h:w.grownBy W (some b)) (o:Obj):w.grownBy (W.alloc o) (some b):=z0n h (z0g (bR.alloc nR _))
theorem z1x {b B:Nat} {w w1:World} (h:w.grownBy w1 (some b)) (hB:B≤b) (hw:B≤w.heap.size):Below B w w1:=
 ⟨h.os,h.tape,h.output,h.size,fun k hk=>h.block k (by omega) (fun e=>by injection e with e;omega)⟩
structure Box5 (w:World) (c:Nat) (v0 v1 v2 v3 v4:Value):Prop where
 c0:w.cell? ⟨c,0,none⟩=some v0
 c1:w.cell? ⟨c,1,none⟩=some v1
 c2:w.cell? ⟨c,2,none⟩=some v2
 c3:w.cell? ⟨c,3,none⟩=some v3
 c4:w.cell? ⟨c,4,none⟩=some v4
 fr:∀ q,q<5→w.frozen? ⟨c,q,none⟩=false
theorem Box5.freed {w:World} {c:Nat} {v0 v1 v2 v3 v4:Value} (h:Box5 w c v0 v1 v2 v3 v4):
  w.frozen? ⟨c,0,none⟩=false∧w.frozen? ⟨c,1,none⟩=false∧w.frozen? ⟨c,2,none⟩=false∧w.frozen? ⟨c,3,none⟩=false∧w.frozen? ⟨c,4,none⟩=false:=
 ⟨h.fr 0 (by omega),h.fr 1 (by omega),h.fr 2 (by omega),h.fr 3 (by omega),h.fr 4 (by omega)⟩
theorem z1p (w:World) (c j:Nat) (u u':Value) (h:w.cell? ⟨c,j,none⟩=some u):(w.setCell ⟨c,j,none⟩ u').cell? ⟨c,j,none⟩=some u':=World.cell?_setCell_same _ _ _ h
theorem z1h (w:World) (c j i:Nat) (u':Value) (h:j≠i):(w.setCell ⟨c,j,none⟩ u').cell? ⟨c,i,none⟩=w.cell? ⟨c,i,none⟩:=World.cell?_setCell_other _ _ _ _ (fun e=>by injection e with _ e;omega)
theorem Box5.put {w:World} {c:Nat} {u0 u1 u2 u3 u4:Value} (h:Box5 w c u0 u1 u2 u3 u4) (v0 v1 v2 v3 v4:Value):Box5 (put5 w c v0 v1 v2 v3 v4) c v0 v1 v2 v3 v4:=by
 unfold put5;refine⟨?_,?_,?_,?_,?_,fun q hq=>?_⟩
 ·repeat rw[z1h _ _ _ _ _ (by omega)]
  exact z1p _ _ _ _ _ h.c0
 ·repeat rw[z1h _ _ _ _ _ (by omega)]
  exact z1p _ _ _ _ _ (by(repeat rw[z1h _ _ _ _ _ (by omega)]);exact h.c1)
 ·repeat rw[z1h _ _ _ _ _ (by omega)]
  exact z1p _ _ _ _ _ (by(repeat rw[z1h _ _ _ _ _ (by omega)]);exact h.c2)
 ·repeat rw[z1h _ _ _ _ _ (by omega)]
  exact z1p _ _ _ _ _ (by(repeat rw[z1h _ _ _ _ _ (by omega)]);exact h.c3)
 ·exact z1p _ _ _ _ _ (by(repeat rw[z1h _ _ _ _ _ (by omega)]);exact h.c4)
 ·simp only[World.frozen?_setCell];exact h.fr q hq
theorem Box5.grown {b c:Nat} {w w':World} {v0 v1 v2 v3 v4:Value} (h:Box5 w c v0 v1 v2 v3 v4) (hg:w.grownBy w' (some b)) (hn:c≠b):Box5 w' c v0 v1 v2 v3 v4:=by
 have hc:c<w.heap.size:=World.block_lt_of_cell? w _ h.c0;have e:w'.heap[c]?=w.heap[c]?:=hg.block c hc (fun e=>hn (by injection e));have k:∀ j,w'.cell? ⟨c,j,none⟩=w.cell? ⟨c,j,none⟩:=fun j=>World.cell?_of_block e
 exact⟨(k _).trans h.c0,(k _).trans h.c1,(k _).trans h.c2,(k _).trans h.c3,(k _).trans h.c4,fun q hq=>(World.frozen?_of_block e).trans (h.fr q hq)⟩
theorem Box5.low {c:Nat} {w w':World} {v0 v1 v2 v3 v4:Value} (h:Box5 w c v0 v1 v2 v3 v4) (hb:Below w.heap.size w w'):Box5 w' c v0 v1 v2 v3 v4:=h.grown (b:=c+1) (z0g hb) (by omega)
theorem Box5.other {w:World} {c:Nat} {v0 v1 v2 v3 v4:Value} (h:Box5 w c v0 v1 v2 v3 v4) {a:Addr} (ha:a.block≠c) (u:Value):Box5 (w.setCell a u) c v0 v1 v2 v3 v4:=by
 have k:∀ j,(w.setCell a u).cell? ⟨c,j,none⟩=w.cell? ⟨c,j,none⟩:=fun j=>World.cell?_setCell_other _ _ _ _ (fun e=>ha (by rw[e]))
 exact⟨(k _).trans h.c0,(k _).trans h.c1,(k _).trans h.c2,(k _).trans h.c3,(k _).trans h.c4,fun q hq=>(World.frozen?_setCell ..).trans (h.fr q hq)⟩
theorem Box5.drews {w:World} {c:Nat} {v0 v1 v2 v3 v4:Value} (h:Box5 w c v0 v1 v2 v3 v4) (m:Nat):Box5 (w.drewN m) c v0 v1 v2 v3 v4:=⟨h.c0,h.c1,h.c2,h.c3,h.c4,h.fr⟩
theorem Box5.new (w:World) (T:TypeId) (v0 v1 v2 v3 v4:Value):Box5 (w.alloc (.cells #[v0,v1,v2,v3,v4] T)) w.heap.size v0 v1 v2 v3 v4:=by
 have k:∀ j u,[v0,v1,v2,v3,v4][j]?=some u→(w.alloc (.cells #[v0,v1,v2,v3,v4] T)).cell? ⟨w.heap.size,j,none⟩=some u:=fun j u h=>by
  have h0:=z0k w T #[v0,v1,v2,v3,v4] j u h;have hadd:(⟨w.heap.size,0,none⟩:Addr).add j=⟨w.heap.size,j,none⟩:=by unfold Addr.add;split <;> simp_all
  rw[hadd] at h0;exact h0
 refine⟨k 0 _ rfl,k 1 _ rfl,k 2 _ rfl,k 3 _ rfl,k 4 _ rfl,fun q hq=>?_⟩;have h:q=0∨q=1∨q=2∨q=3∨q=4:=by omega
 rcases h with rfl | rfl | rfl | rfl | rfl <;> simp[go_sem]
theorem z0y (W:World) (c:Nat) (v0 v1 v2 v3 v4:Value):(put5 W c v0 v1 v2 v3 v4).heap.size=W.heap.size:=by simp[put5,World.setCell]
theorem y6k (W:World) (c:Nat) (v0 v1 v2 v3 v4:Value) {k:Nat} (hk:k≠c):(put5 W c v0 v1 v2 v3 v4).heap[k]?=W.heap[k]?:=by
 have e:∀ (W:World) (j:Nat) (u:Value),(W.setCell ⟨c,j,none⟩ u).heap[k]?=W.heap[k]?:=fun W j u=>Below.heap_setCell _ _ _ _ hk
 unfold put5;rw[e,e,e,e,e]
structure RdC (b:Nat) (w:World) (A:OA) (n c:Nat) (l:List Tok) (k:Nat):Prop where
 c0:w.cell? ⟨b,0,none⟩=some (.slice A n c)
 c1:w.cell? ⟨b,1,none⟩=some (.int .i64 k)
 f1:w.frozen? ⟨b,1,none⟩=false
 row:RdT b w A n l
 giv:∀ w',Below b w w'→Given w'
theorem RdC.lt {b:Nat} {w:World} {A:OA} {n c:Nat} {l:List Tok} {k:Nat} (h:RdC b w A n c l k):b<w.heap.size:=World.block_lt_of_cell? w _ h.c0
theorem RdC.low {b:Nat} {w w':World} {A:OA} {n c:Nat} {l:List Tok} {k:Nat} (h:RdC b w A n c l k) (hb:Below w.heap.size w w'):RdC b w' A n c l k:=
 have hl:=h.lt;have hB:Below b w w':=hb.mono (by omega)
 ⟨(hb.cell (p:=⟨b,0,none⟩) hl).trans h.c0,(hb.cell (p:=⟨b,1,none⟩) hl).trans h.c1,(hb.frozen (p:=⟨b,1,none⟩) hl).trans h.f1,h.row.keep hB,fun w2 h2=>h.giv w2 (hB.trans h2)⟩
theorem RdC.other {b:Nat} {w:World} {A:OA} {n c:Nat} {l:List Tok} {k:Nat} (h:RdC b w A n c l k) {a:Addr} (ha:b<a.block) (u:Value):RdC b (w.setCell a u) A n c l k:=by
 have hB:Below b w (w.setCell a u):=bR.setCell (by omega) _;refine⟨?_,?_,?_,h.row.keep hB,fun w2 h2=>h.giv w2 (hB.trans h2)⟩
 ·rw[World.cell?_setCell_other _ _ _ _ (fun e=>by rw[e] at ha;exact absurd ha (Nat.lt_irrefl _))];exact h.c0
 ·rw[World.cell?_setCell_other _ _ _ _ (fun e=>by rw[e] at ha;exact absurd ha (Nat.lt_irrefl _))];exact h.c1
 ·rw[World.frozen?_setCell];exact h.f1
theorem RdC.put5 {b:Nat} {w:World} {A:OA} {n c:Nat} {l:List Tok} {k:Nat} (h:RdC b w A n c l k) {q:Nat} (hq:b<q) (v0 v1 v2 v3 v4:Value):RdC b (put5 w q v0 v1 v2 v3 v4) A n c l k:=
 ((((h.other (a:=⟨q,0,none⟩) hq _).other (a:=⟨q,1,none⟩) hq _).other (a:=⟨q,2,none⟩) hq _).other (a:=⟨q,3,none⟩) hq _).other (a:=⟨q,4,none⟩) hq _
theorem y08 (b:Nat) (w:World) (u:Value):Below b w (w.setCell ⟨b,1,none⟩ u):=⟨rfl,rfl,rfl,by simp[World.setCell],fun k hk=>Below.heap_setCell _ _ _ _ (by show k≠b;omega)⟩
theorem RdC.place {b:Nat} {w:World} {A:OA} {n c:Nat} {l:List Tok} {k:Nat} (h:RdC b w A n c l k) (j:Nat):RdC b (w.setCell ⟨b,1,none⟩ (.int .i64 j)) A n c l j:=by
 have hB:Below b w (w.setCell ⟨b,1,none⟩ (.int .i64 j)):=y08 b w _;refine⟨?_,World.cell?_setCell_same _ _ _ h.c1,?_,h.row.keep hB,fun w2 h2=>h.giv w2 (hB.trans h2)⟩
 ·rw[World.cell?_setCell_other _ _ _ _ (by simp)];exact h.c0
 ·rw[World.frozen?_setCell];exact h.f1
structure FitL (l:List Tok):Prop where
 ok:∀ t∈l,okT t=true
 fit:∀ t∈l,FitT t
 len:l.length≤1000000
def nxt (l:List Tok) (k:Nat):Tok:=l[k]?.getD ⟨0,[],0,[],0⟩
theorem y4k {l:List Tok} {k:Nat} {t:Tok} (h:l[k]?=some t):nxt l k=t:=by unfold nxt;rw[h];rfl
theorem x4g {l:List Tok} {k:Nat} (h:¬ k<l.length):nxt l k=⟨0,[],0,[],0⟩:=by unfold nxt;rw[List.getElem?_eq_none (by omega)];rfl
theorem x5j (l:List Tok) (k:Nat):sg l k=if (nxt l k).kind=4 then (nxt l k).word else []:=by
 unfold sg nxt
 cases l[k]? with
 | none=>rfl
 | some t=>rfl
def NextP (w:World) (t:Tok) (e:Ending) (w':World):Prop:=∃ A c,e= .returned (.agg #[t.kind,t.word,t.n,.slice A t.parts.length c,t.pl])∧Below w.heap.size w w'
theorem z4b (b:Nat) (w:World) (A:OA) (n c:Nat) (l:List Tok) (k:Nat) (h:RdC b w A n c l k) (hf:FitL l) (hk:k≤n):
  Cz 176 #[pP b] w (NextP w (nxt l k)):=by
 have hlen:=h.row.1;have hl:=hf.len;obtain⟨c0,c1,f1,row,giv⟩:=h;have hbl:b<w.heap.size:=World.block_lt_of_cell? w _ c0;by_cases a:k<n
 ·obtain⟨t,ht⟩:∃ t,l[k]?=some t:=⟨_,List.getElem?_eq_getElem (by omega)⟩
  rw[y4k ht];have hok:=hf.ok t (List.mem_of_getElem? ht);have hft:=hf.fit t (List.mem_of_getElem? ht);obtain⟨ad,A',c',rfl,h5,hrd⟩:=row.at_ ht
  have KT:Hid (∀ w',Below w.heap.size w w'→Cz 42 #[tokA t A' c'] w' fun e w2=>e= .returned (.tuple #[.string (textB t),oZ])∧Below w'.heap.size w' w2):=zz fun w' hb'=>by
   have:=y4b t A' c' w' ((hrd.up (by omega)).onto hb') hft (giv w' (hb'.mono (by omega)));unfold errB at this;rw[hok,if_pos rfl] at this;exact this
  unfold tokA at KT;obtain⟨x0,x1,x2,x3,x4⟩:=h5;have hbt:(ad.add (k * 5)).block<w.heap.size:=World.block_lt_of_cell? w _ x0;obtain⟨W,hW⟩:∃ W:BA,W=⟨t.word.toArray⟩:=⟨_,rfl⟩;obtain⟨m,hm⟩:∃ m,m=t.parts.length:=⟨_,rfl⟩;rw[←hW] at x1 KT;rw[←hm] at x3 KT;unfold NextP;rw[←hW,←hm];have b1:((k:Int)==(n:Int))=false:=by simp;omega
  have b2:(k==n)=false:=by simp;omega
  have hk1:(k:Int)<n:=by omega
  clear hrd hft hok ht hW hm row giv hf hlen hl;go_enter Tryz.func176,Tryz.ntmps176;go_wp2;go_quiet (fail);go_wp2
  go_region
  obtain⟨o1,ho1⟩:∃ o:Obj,o= .cells #[oZ,oS,oZ,(),oZ] 53:=⟨_,rfl⟩;obtain⟨W1,hW1⟩:∃ W1,W1=((w.alloc o1).drewN (nq+1)).alloc (.cells #[t.kind,W,t.n,.slice A' m c',t.pl] 53):=⟨_,rfl⟩;have hs1:((w.alloc o1).drewN (nq+1)).heap.size=w.heap.size+1:=by simp[World.drewN]
  have HX1:Hid (Box5 W1 w.heap.size (.int .i64 0) oS oZ () oZ):=zz (by
   rw[hW1,ho1];exact((Box5.new w _ _ _ _ _ _).drews _).low (bR.alloc nR _))
  have HT1:Hid (Box5 W1 (w.heap.size+1) (.int .i64 t.kind) (.string W) (.int .i64 t.n) (.slice A' m c') (.int .i64 t.pl)):=zz (by
   rw[hW1,←hs1];exact Box5.new _ _ _ _ _ _ _)
  have HB1:Hid (Below (w.heap.size+1) (w.alloc o1) W1):=zz (by
   rw[hW1];exact(z0e bR _).alloc (by rw[hs1];exact Nat.le_refl _) _)
  have hz:(w.alloc o1).heap.size=w.heap.size+1:=by simp
  rw[ho1] at hW1;rw[←hW1];clear hW1 hs1;have HB0:Hid (Below w.heap.size w W1):=zz ((bR.alloc nR o1).trans (HB1.out.mono (by omega)));have hsz:=HB1.out.size;rw[hz] at hsz;have HZ:=zz hz;clear hz ho1 x0 x1 x2 x3 x4 c0 c1 f1;obtain⟨g0,g1,g2,g3,g4,_⟩:=HT1.out;go_wp2_with (go_at_call 42;go_must ((with_reducible refine(KT.out _ HB0.out).mono ?_);rintro e w2 ⟨rfl,hb2⟩;obtain⟨d0,d1,d2,d3,d4,_⟩:=HX1.out.low hb2;obtain⟨e0,e1,e2,e3,e4⟩:=(HX1.out.low hb2).freed;obtain⟨k0,k1,k2,k3,k4,_⟩:=HT1.out.low hb2;have HB2:=zz (HB1.out.trans (hb2.mono (by omega)));clear hb2));refine bodyPost_ret (v:= .agg #[t.kind,W,t.n,.slice A' m c',t.pl]) (by simp[results,Tryz.results176,go_sem,d0,d1,d2,d3,d4]) rfl ⟨A',c',rfl,?_⟩;exact z1b (o:=o1) (by rw[HZ.out];exact HB2.out) _ _ _ _ _
 ·have hkn:k=n:=by omega
  rw[x4g (by omega)];unfold NextP;have b1:((k:Int)==(n:Int))=true:=by simp;omega
  have b2:(k==n)=true:=by simp;omega
  clear row giv hf hlen hl hkn;go_enter Tryz.func176,Tryz.ntmps176;go_wp2;go_quiet (fail);go_wp2;refine bodyPost_ret (v:= .agg #[oZ,oS,oZ,(),oZ]) (by simp[results,Tryz.results176,go_sem]) rfl ⟨none,0,rfl,?_⟩;exact z1b (z0e bR _) _ _ _ _ _
theorem z1c (b:Nat) (w:World) (A:OA) (n c:Nat) (l:List Tok) (k:Nat) (h:RdC b w A n c l k) (hf:FitL l) (hk:k≤n):
  Cz 155 #[pP b] w fun e w'=>e= .returned (.string ⟨(sg l k).toArray⟩)∧Below w.heap.size w w':=by
 have K:=zz (z4b b w A n c l k h hf hk);obtain⟨S,hS⟩:∃ S:BA,S=⟨(sg l k).toArray⟩:=⟨_,rfl⟩;rw[←hS];rw[x5j] at hS;clear h hf hk;generalize nxt l k=t at K hS;by_cases e4:t.kind=4
 ·rw[if_pos e4] at hS
  obtain⟨K4,hK4⟩:∃ x,x=t.kind:=⟨_,rfl⟩;unfold NextP at K;rw[←hS,e4] at K;clear hS e4 hK4;go_enter Tryz.func155,Tryz.ntmps155;go_wp2_with (go_at_call 176;go_must (((with_reducible refine K.out.mono ?_));rintro e w1 ⟨A1,c1,rfl,hb1⟩;have HB1:=zz hb1;clear hb1));go_ret;exact⟨rfl,HB1.out.trans ((bR.alloc nR _).mono HB1.out.size)⟩
 ·rw[if_neg e4,nilB] at hS
  subst hS;obtain⟨x,hx⟩:∃ x,x=t.kind:=⟨_,rfl⟩;have q4:(x != 4)=true:=by rw[hx];simpa using e4
  unfold NextP at K;rw[←hx] at K;clear hx e4;go_enter Tryz.func155,Tryz.ntmps155;go_wp2_with (go_at_call 176;go_must (((with_reducible refine K.out.mono ?_));rintro e w1 ⟨A1,c1,rfl,hb1⟩;have HB1:=zz hb1;clear hb1));go_ret;exact⟨rfl,HB1.out.trans ((bR.alloc nR _).mono HB1.out.size)⟩
def FrX (lo hi:Nat):Nat→Prop:=fun k=>lo≤k∧k<hi
theorem KidsX.leaf (P:Nat→Prop) (w:World) (A:OA) (k n:Int) (nm op:Bs):KidsX P w A (.mk k n nm op []):=by rw[KidsX];exact .inl rfl
theorem KidsX.wide {P Q:Nat→Prop} {w:World} {A:OA} {r:Ex} (h:KidsX P w A r) (hPQ:∀ k,P k→Q k):KidsX Q w A r:=z4y (fun _ _=>rfl) hPQ r A h
theorem KidsX.to {lo hi lo' hi':Nat} {w:World} {A:OA} {r:Ex} (h:KidsX (FrX lo hi) w A r) (h1:lo'≤lo) (h2:hi≤hi'):KidsX (FrX lo' hi') w A r:=h.wide fun _ hk=>⟨Nat.le_trans h1 hk.1,Nat.lt_of_lt_of_le hk.2 h2⟩
theorem KidsX.over {P:Nat→Prop} {w w':World} {A:OA} {r:Ex} (h:KidsX P w A r) (hg:∀ k,P k→w'.heap[k]?=w.heap[k]?):KidsX P w' A r:=
 z4y (fun _ ha=>World.cell?_of_block (hg _ ha)) (fun _ hk=>hk) r A h
theorem KidsX.grownX {b:Nat} {P:Nat→Prop} {w w':World} {A:OA} {r:Ex} (h:KidsX P w A r) (hg:w.grownBy w' (some b)) (hP:∀ k,P k→k<w.heap.size∧k≠b):KidsX P w' A r:=
 h.over fun k hk=>hg.block k (hP k hk).1 (fun e=>(hP k hk).2 (by injection e))
theorem KidsX.put5 {P:Nat→Prop} {w:World} {A:OA} {r:Ex} (h:KidsX P w A r) {c:Nat} (hc:¬ P c) (v0 v1 v2 v3 v4:Value):KidsX P (put5 w c v0 v1 v2 v3 v4) A r:=
 h.over fun _ hk=>y6k _ _ _ _ _ _ _ (fun e=>hc (e ▸ hk))
theorem KidsX.allocX {P:Nat→Prop} {w:World} {A:OA} {r:Ex} (h:KidsX P w A r) (hP:∀ k,P k→k<w.heap.size) (o:Obj):KidsX P (w.alloc o) A r:=
 h.over fun k hk=>(Below.alloc (Below.refl w.heap.size w) nR o).block k (hP k hk)
theorem z4q (x:Ex) (A:OA) (c:Nat):valX x A c= .agg #[x.kind,x.n,x.name,x.op,.slice A x.kids.length c]:=by cases x;rfl
theorem x0c {w:World} {a:Addr} {x:Ex} {A:OA} {c:Nat} (h0:w.cell? a=some (.int .i64 x.kind)) (h1:w.cell? ⟨a.block,a.off+1,none⟩=some (.int .i64 x.n)) (h2:w.cell? ⟨a.block,a.off+2,none⟩=some (.string ⟨x.name.toArray⟩))
 (h3:w.cell? ⟨a.block,a.off+3,none⟩=some (.string ⟨x.op.toArray⟩)) (h4:w.cell? ⟨a.block,a.off+4,none⟩=some (.slice A x.kids.length c)):AtX w a x A c:=by cases x;exact⟨h0,h1,h2,h3,h4⟩
theorem z1e (W:World) (T:TypeId) (cs:Array Value) (j:Nat) (u:Value) (h:cs.toList[j]?=some u):(W.alloc (.cells cs T)).cell? ⟨W.heap.size,j,none⟩=some u:=by
 have h0:=z0k W T cs j u h;have hadd:(⟨W.heap.size,0,none⟩:Addr).add j=⟨W.heap.size,j,none⟩:=by unfold Addr.add;split <;> simp_all
 rw[hadd] at h0;exact h0
theorem y3x {P:Nat→Prop} {W:World} {x:Ex} {A:OA} {c:Nat} (h:KidsX P W A x) (hP:∀ k,P k→k<W.heap.size) (k n:Int) (nm op:Bs):
  KidsX (fun j=>P j∨j=W.heap.size) (W.alloc (.cells #[x.kind,x.n,x.name,x.op,.slice A x.kids.length c] 38)) (some ⟨W.heap.size,0,none⟩) (.mk k n nm op [x]):=by
 rw[KidsX];refine .inr ⟨_,rfl,.inr rfl,?_⟩;rw[KidsXL,KidsXL];have e:(⟨W.heap.size,0,none⟩:Addr).add (0 * 5)=⟨W.heap.size,0,none⟩:=by simp[Addr.add]
 rw[e];exact⟨⟨A,c,x0c (z1e _ _ _ 0 _ rfl) (z1e _ _ _ 1 _ rfl) (z1e _ _ _ 2 _ rfl) (z1e _ _ _ 3 _ rfl) (z1e _ _ _ 4 _ rfl),(h.allocX hP _).wide fun _ hk=> .inl hk⟩,trivial⟩
theorem y3d {P:Nat→Prop} {W:World} {x y:Ex} {A A':OA} {c c':Nat} (h:KidsX P W A x) (h':KidsX P W A' y) (hP:∀ k,P k→k<W.heap.size) (k n:Int) (nm op:Bs):
  KidsX (fun j=>P j∨j=W.heap.size) (W.alloc (.cells #[x.kind,x.n,x.name,x.op,.slice A x.kids.length c,y.kind,y.n,y.name,y.op,.slice A' y.kids.length c'] 38)) (some ⟨W.heap.size,0,none⟩) (.mk k n nm op [x,y]):=by
 rw[KidsX];refine .inr ⟨_,rfl,.inr rfl,?_⟩;rw[KidsXL,KidsXL,KidsXL];have e:(⟨W.heap.size,0,none⟩:Addr).add (0 * 5)=⟨W.heap.size,0,none⟩:=by simp[Addr.add]
 have e1:(⟨W.heap.size,0,none⟩:Addr).add ((0+1) * 5)=⟨W.heap.size,5,none⟩:=by simp[Addr.add]
 rw[e,e1]
 exact⟨⟨A,c,x0c (z1e _ _ _ 0 _ rfl) (z1e _ _ _ 1 _ rfl) (z1e _ _ _ 2 _ rfl) (z1e _ _ _ 3 _ rfl) (z1e _ _ _ 4 _ rfl),(h.allocX hP _).wide fun _ hk=> .inl hk⟩,
  ⟨A',c',x0c (z1e _ _ _ 5 _ rfl) (z1e _ _ _ 6 _ rfl) (z1e _ _ _ 7 _ rfl) (z1e _ _ _ 8 _ rfl) (z1e _ _ _ 9 _ rfl),(h'.allocX hP _).wide fun _ hk=> .inl hk⟩,trivial⟩
theorem RdC.placez {b:Nat} {w:World} {A:OA} {n c:Nat} {l:List Tok} {k:Nat} (h:RdC b w A n c l k) (j:Nat) (z:Int) (hz:z=j):RdC b (w.setCell ⟨b,1,none⟩ (.int .i64 z)) A n c l j:=by subst hz;exact h.place j
theorem RdC.box {b:Nat} {w:World} {A:OA} {n c:Nat} {l:List Tok} {k:Nat} (h:RdC b w A n c l k) (o:Obj):RdC b (w.alloc o) A n c l k:=h.low (bR.alloc nR _)
def PostC (b:Nat) (w:World) (A:OA) (n c:Nat) (l:List Tok) (r:Rs) (e:Ending) (w':World):Prop:=w.grownBy w' (some b)∧match r with
 | .ok x j=>(∃ A' c',e= .returned (.tuple #[.agg #[x.kind,x.n,x.name,x.op,.slice A' x.kids.length c'],oZ])∧KidsX (FrX w.heap.size w'.heap.size) w' A' x)∧RdC b w' A n c l j
 | .bad j er=>e= .returned (.tuple #[.agg #[oZ,oZ,oS,oS,()],er])∧RdC b w' A n c l j
def ConOne (b:Nat) (A:OA) (n c:Nat) (l:List Tok) (k d:Nat) (r:Rs):Prop:=∀ w,RdC b w A n c l k→Cz 153 #[pP b,d] w (PostC b w A n c l r)
def ConRow (b:Nat) (A:OA) (n c:Nat) (l:List Tok) (m k d:Nat) (r:Rs):Prop:=∀ w,RdC b w A n c l k→Cz 131 #[pP b,m,d] w (PostC b w A n c l r)
structure BoxR (b:Nat) (w w1 w2:World):Prop where
 box:Box5 w2 w.heap.size (.int .i64 0) oZ oS oS ()
 lt:w.heap.size<w2.heap.size
 grown:w.grownBy w2 (some b)
 size:w1.heap.size≤w2.heap.size
abbrev zeroX:Obj:= .cells #[oZ,oZ,oS,oS,()] 38
theorem z61 {b:Nat} {w w2:World} (u:Value) (hlt:b<w.heap.size) (hg:((w.setCell ⟨b,1,none⟩ u).alloc zeroX).grownBy w2 (some b)):BoxR b w ((w.setCell ⟨b,1,none⟩ u).alloc zeroX) w2:=by
 have hs:(w.setCell ⟨b,1,none⟩ u).heap.size=w.heap.size:=by simp[World.setCell]
 have h1:=Box5.new (w.setCell ⟨b,1,none⟩ u) 38 (.int .i64 0) oZ oS oS ();rw[hs] at h1;have h2:=hg.size;simp only[World.size_alloc,hs] at h2;exact⟨h1.grown hg (by omega),by omega,z0n (y2v (z01 b 1 w u) _) hg,hg.size⟩
structure EndR (b:Nat) (w W3:World) (A:OA) (n c:Nat) (l:List Tok) (j:Nat) (v0 v1 v2 v3 v4:Value):Prop where
 box:Box5 W3 w.heap.size v0 v1 v2 v3 v4
 grown:w.grownBy W3 (some b)
 rd:RdC b W3 A n c l j
theorem z7y {b:Nat} {w W W3:World} {A:OA} {n c:Nat} {l:List Tok} {j:Nat} {u0 u1 u2 u3 u4 v0 v1 v2 v3 v4:Value} (hb:b<w.heap.size) (hx:Box5 W w.heap.size u0 u1 u2 u3 u4) (hg:w.grownBy W (some b)) (hr:RdC b W A n c l j)
  (h3:Below (put5 W w.heap.size v0 v1 v2 v3 v4).heap.size (put5 W w.heap.size v0 v1 v2 v3 v4) W3):EndR b w W3 A n c l j v0 v1 v2 v3 v4:=
 ⟨(hx.put _ _ _ _ _).low h3,z0n (z2n hg nR _ _ _ _ _) (z0g h3),(hr.put5 hb _ _ _ _ _).low h3⟩
theorem z0b (w:World) (o:Obj):Below w.heap.size w (w.alloc o):=bR.alloc nR _
theorem y35 (b:Nat) (w:World) (A:OA) (n c:Nat) (l:List Tok) (k:Nat) (kd:Int) (h:RdC b w A n c l k):
  Cz 177 #[pP b,kd,iI 64] w (PostC b w A n c l (.bad k 8)):=by
 have hlt:=h.lt;have H:=zz h;clear h;go_enter Tryz.func177,Tryz.ntmps177;go_wp2;refine bodyPost_ret (v:= .tuple #[.agg #[oZ,oZ,oS,oS,()],iI 8]) (by simp[results,Tryz.results177,go_sem]) rfl ⟨?_,rfl,?_⟩
 ·exact z0g (bR.alloc nR _)
 ·exact H.out.box _
theorem z9e (b:Nat) (w:World) (A:OA) (n c:Nat) (l:List Tok) (k d:Nat) (kd:Int) (h:RdC b w A n c l k) (hkb:k≤1000000) (hd:d<64) (j er:Nat) (he:er≠0) (HK:ConOne b A n c l (k+1) (d+1) (.bad j er)):
  Cz 177 #[pP b,kd,d] w (PostC b w A n c l (.bad j er)):=by
 have hlt:=h.lt;have H1:Hid (∀ o,RdC b ((w.setCell ⟨b,1,none⟩ (.int .i64 ((k:Int)+1))).alloc o) A n c l (k+1)):=zz fun o=>(h.placez (k+1) _ (by omega)).box o
 obtain⟨c0,c1,f1,_,_⟩:=h;have K:Hid (∀ w,RdC b w A n c l (k+1)→Cz 153 #[pP b,iI ((d:Int)+1)] w (PostC b w A n c l (.bad j er))):=zz HK;have b1:((d:Int)==64)=false:=by simp;omega
 have b2:((er:Int) != 0)=true:=by simp;omega
 have b3:(er != 0)=true:=by simp;omega
 clear HK he;go_enter Tryz.func177,Tryz.ntmps177;go_wp2_with (go_at_call 153;go_must ((with_reducible refine(K.out _ (H1.out _)).mono ?_);rintro e w2 ⟨hg2,rfl,hr2⟩;have HB:=zz (z61 _ hlt hg2);have hq:=HB.out.lt;obtain⟨d0,d1,d2,d3,d4,_⟩:=HB.out.box;obtain⟨e0,e1,e2,e3,e4⟩:=HB.out.box.freed;have HR:=zz hr2;clear hg2 hr2));obtain⟨W3,hW3⟩:∃ W3,W3=(put5 w2 w.heap.size (.int .i64 0) oZ oS oS ()).alloc zeroX:=⟨_,rfl⟩;have HE:EndR b w W3 A n c l j (.int .i64 0) oZ oS oS ():=z7y hlt HB.out.box HB.out.grown HR.out (by rw[hW3];exact z0b _ _);rw[←hW3];clear hW3 d0 d1 d2 d3 d4;obtain⟨d0,d1,d2,d3,d4,_⟩:=HE.box;exact bodyPost_ret (v:= .tuple #[.agg #[oZ,oZ,oS,oS,()],er]) (by simp[results,Tryz.results177,go_sem,d0,d1,d2,d3,d4]) rfl ⟨HE.grown,rfl,HE.rd⟩
theorem y2l (b:Nat) (w:World) (A:OA) (n c:Nat) (l:List Tok) (k d:Nat) (kd:Int) (h:RdC b w A n c l k) (hkb:k≤1000000) (hd:d<64) (x:Ex) (j:Nat) (HK:ConOne b A n c l (k+1) (d+1) (.ok x j)):
  Cz 177 #[pP b,kd,d] w (PostC b w A n c l (.ok (.mk kd 0 [] [] [x]) j)):=by
 have hlt:=h.lt;have H1:Hid (∀ o,RdC b ((w.setCell ⟨b,1,none⟩ (.int .i64 ((k:Int)+1))).alloc o) A n c l (k+1)):=zz fun o=>(h.placez (k+1) _ (by omega)).box o
 obtain⟨c0,c1,f1,_,_⟩:=h;have K:Hid (∀ w,RdC b w A n c l (k+1)→Cz 153 #[pP b,iI ((d:Int)+1)] w (PostC b w A n c l (.ok x j))):=zz HK;have b1:((d:Int)==64)=false:=by simp;omega
 clear HK;go_enter Tryz.func177,Tryz.ntmps177;go_wp2_with (go_at_call 153;go_must ((with_reducible refine(K.out _ (H1.out _)).mono ?_);rintro e w2 ⟨hg2,⟨A2,c2,rfl,hk2⟩,hr2⟩;have HB:=zz (z61 _ hlt hg2);have hq:=HB.out.lt;obtain⟨d0,d1,d2,d3,d4,_⟩:=HB.out.box;obtain⟨e0,e1,e2,e3,e4⟩:=HB.out.box.freed;have HR:=zz hr2;have HKD:=zz hk2;clear hg2 hr2 hk2));obtain⟨W,hW⟩:∃ W,W=(put5 w2 w.heap.size (.int .i64 kd) oZ oS oS (.slice (some ⟨w2.heap.size+1,0,none⟩) 1 1)).alloc (.cells #[x.kind,x.n,x.name,x.op,.slice A2 x.kids.length c2] 38):=⟨_,rfl⟩;have hs:W.heap.size=w2.heap.size+1:=by rw[hW];simp
 obtain⟨W3,hW3⟩:∃ W3,W3=W.alloc (.cells #[x.kind,x.n,x.name,x.op,.slice A2 x.kids.length c2] 38):=⟨_,rfl⟩;have HE:EndR b w W3 A n c l j (.int .i64 kd) oZ oS oS (.slice (some ⟨w2.heap.size+1,0,none⟩) 1 1):=z7y hlt HB.out.box HB.out.grown HR.out (by rw[hW3,hW];exact(z0b _ _).trans ((z0b _ _).mono (by simp)))
 have hk3:KidsX (FrX w.heap.size W3.heap.size) W3 (some ⟨w2.heap.size+1,0,none⟩) (.mk kd 0 [] [] [x]):=by
  have g1:=HKD.out;have hl1:((w.setCell ⟨b,1,none⟩ (.int .i64 ((k:Int)+1))).alloc zeroX).heap.size=w.heap.size+1:=by simp
  rw[hl1] at g1;have g2:=(g1.put5 (c:=w.heap.size) (fun hp=>by unfold FrX at hp;omega) (.int .i64 kd) oZ oS oS (.slice (some ⟨w2.heap.size+1,0,none⟩) 1 1)).allocX (fun k hk=>by rw[z0y];exact hk.2) (.cells #[x.kind,x.n,x.name,x.op,.slice A2 x.kids.length c2] 38);rw[←hW] at g2;have g3:=y3x (c:=c2) g2 (fun k hk=>by rw[hs];have:=hk.2;omega) kd 0 [] [];rw[←hW3,hs] at g3;have hs3:W3.heap.size=w2.heap.size+2:=by rw[hW3];simp[hs]
  exact g3.wide fun q hp=>by
   rw[hs3]
   rcases hp with hp | rfl
   ·exact⟨by have:=hp.1;omega,by have:=hp.2;omega⟩
   ·exact⟨by omega,by omega⟩
 rw[←hW,←hW3];clear hW hW3 d0 d1 d2 d3 d4;obtain⟨d0,d1,d2,d3,d4,_⟩:=HE.box;exact bodyPost_ret (v:= .tuple #[.agg #[kd,oZ,oS,oS,.slice (some ⟨w2.heap.size+1,0,none⟩) 1 1],oZ]) (by simp[results,Tryz.results177,go_sem,d0,d1,d2,d3,d4]) rfl ⟨HE.grown,⟨_,1,rfl,hk3⟩,HE.rd⟩
end Go.Proofs.YtngfihoempcplaaGreatDoor
