import Derived.Test.YthghbdeaenjckaaDoorTkM
import Derived.Deep.QuietTactic
import Derived.Deep.Slices
import Derived.RegionTactic
import Derived.BigQuiet
import Derived.Tactics2
import Derived.StillTactics
import Derived.Test.YthghbdeaenjckaaDoorQBelow
import Derived.Test.YthghbdeaenjckaaDoorName2
import Derived.Lib.Bytealg
namespace Go.Proofs.YthghbdeaenjckaaDoor
open Go Go.RowKit
set_option maxRecDepth 100000
set_option maxHeartbeats 4000000
inductive Ex where
 | mk (kind n:Int) (name op:Bs) (kids:List Ex):Ex
theorem Ex.ind {P:Ex→Prop} (h:∀ k n nm op ks,(∀ r∈ks,P r)→P (.mk k n nm op ks)):∀ r,P r:=by
 intro r;refine Ex.rec (motive_1:=P) (motive_2:=fun l=>∀ r∈l,P r) ?_ ?_ ?_ r
 ·intro k n nm op ks ih;exact h k n nm op ks ih
 ·intro r hr;cases hr
 ·intro a l ha hl r hr
  rcases List.mem_cons.1 hr with rfl | hr
  ·exact ha
  ·exact hl r hr
def Ex.kind:Ex→Int | .mk k _ _ _ _=>k
def Ex.n:Ex→Int | .mk _ n _ _ _=>n
def Ex.name:Ex→Bs | .mk _ _ nm _ _=>nm
def Ex.op:Ex→Bs | .mk _ _ _ op _=>op
def Ex.kids:Ex→List Ex | .mk _ _ _ _ ks=>ks
def exNone:Ex:= .mk 0 0 [] [] []
def exNum (n:Int):Ex:= .mk 0 n [] [] []
def exVar (w:Bs):Ex:= .mk 1 0 w [] []
def exNeg (x:Ex):Ex:= .mk 2 0 [] [] [x]
def exNot (x:Ex):Ex:= .mk 3 0 [] [] [x]
def exBin (op:Bs) (x y:Ex):Ex:= .mk 4 0 [] op [x,y]
def strong (op:Bs):Nat:=
 if op=[124,124] then 1 else if op=[38,38] then 2 else if op=[61,61]∨op=[33,61] then 3
 else if op=[60]∨op=[62]∨op=[60,61]∨op=[62,61] then 4 else if op=[43]∨op=[45] then 5
 else if op=[42]∨op=[47]∨op=[37] then 6 else 0
theorem strong_le (op:Bs):strong op≤6:=by unfold strong;repeat' split
                                          all_goals omega
theorem strong_nil:strong []=0:=by decide
def sg (l:List Tok) (i:Nat):Bs:=match l[i]? with
 | some t=>if t.kind=4 then t.word else []
 | none=>[]
inductive Rs where
 | ok (x:Ex) (at_:Nat):Rs
 | bad (at_:Nat) (e:Nat):Rs
inductive Md where
 | one:Md
 | some (least:Nat):Md
 | loop (least:Nat) (x:Ex):Md
def pre3 (w:Bs):Prop:=w=[45]∨w=[33]∨w=[40]
inductive RdE (l:List Tok):Md→Nat→Nat→Rs→Prop
 | deep {i d}:pre3 (sg l i)→64≤d→RdE l .one i d (.bad i 8)
 | par {i d x j}:sg l i=[40]→d<64→RdE l (.some 1) (i+1) (d+1) (.ok x j)→sg l j=[41]→RdE l .one i d (.ok x (j+1))
 | parOpen {i d x j}:sg l i=[40]→d<64→RdE l (.some 1) (i+1) (d+1) (.ok x j)→sg l j≠[41]→RdE l .one i d (.bad j 1)
 | parBad {i d j e}:sg l i=[40]→d<64→RdE l (.some 1) (i+1) (d+1) (.bad j e)→RdE l .one i d (.bad j e)
 | neg {i d x j}:sg l i=[45]→d<64→RdE l .one (i+1) (d+1) (.ok x j)→RdE l .one i d (.ok (exNeg x) j)
 | not {i d x j}:sg l i=[33]→d<64→RdE l .one (i+1) (d+1) (.ok x j)→RdE l .one i d (.ok (exNot x) j)
 | unBad {i d j e}:sg l i=[45]∨sg l i=[33]→d<64→RdE l .one (i+1) (d+1) (.bad j e)→RdE l .one i d (.bad j e)
 | num {i d t}:l[i]?=some t→t.kind=2→RdE l .one i d (.ok (exNum t.n) (i+1))
 | var {i d t}:l[i]?=some t→t.kind=6→RdE l .one i d (.ok (exVar t.word) (i+1))
 | none {i d}:¬ pre3 (sg l i)→(∀ t,l[i]?=some t→t.kind≠2∧t.kind≠6)→RdE l .one i d (.bad i 1)
 | some {m i d x j r}:RdE l .one i d (.ok x j)→RdE l (.loop m x) j d r→RdE l (.some m) i d r
 | someBad {m i d j e}:RdE l .one i d (.bad j e)→RdE l (.some m) i d (.bad j e)
 | stop {m x i d}:strong (sg l i)<m→RdE l (.loop m x) i d (.ok x i)
 | opDeep {m x i d}:m≤strong (sg l i)→64≤d→RdE l (.loop m x) i d (.bad i 8)
 | op {m x i d y k r}:m≤strong (sg l i)→d<64→RdE l (.some (strong (sg l i)+1)) (i+1) (d+1) (.ok y k)→RdE l (.loop m (exBin (sg l i) x y)) k d r→RdE l (.loop m x) i d r
 | opBad {m x i d j e}:m≤strong (sg l i)→d<64→RdE l (.some (strong (sg l i)+1)) (i+1) (d+1) (.bad j e)→RdE l (.loop m x) i d (.bad j e)
theorem sg_kind {l:List Tok} {i:Nat} {t:Tok} (h:l[i]?=some t) (hk:t.kind≠4):sg l i=[]:=by unfold sg;rw[h];exact if_neg hk
theorem sg_at {l:List Tok} {i:Nat} (h:sg l i≠[]):∃ t,l[i]?=some t∧t.kind=4∧sg l i=t.word:=by
 unfold sg at h ⊢
 cases ht:l[i]? with
 | none=>rw[ht] at h;exact absurd rfl h
 | some t=>
   rw[ht] at h;by_cases hk:t.kind=4
   ·exact⟨t,rfl,hk,if_pos hk⟩
   ·exact absurd (if_neg hk) h
theorem sg_lt {l:List Tok} {i:Nat} (h:sg l i≠[]):i<l.length:=by
 obtain⟨t,ht,_⟩:=sg_at h;exact(List.getElem?_eq_some_iff.1 ht).1
theorem sg_past {l:List Tok} {i:Nat} (h:¬ i<l.length):sg l i=[]:=by unfold sg;rw[List.getElem?_eq_none (by omega)]
theorem strong_sg_lt {l:List Tok} {i m:Nat} (hm:1≤m) (h:m≤strong (sg l i)):i<l.length:=sg_lt fun e=>by rw[e,strong_nil] at h;omega
theorem RdE.det {l:List Tok} {m:Md} {i d:Nat} {r:Rs} (h:RdE l m i d r):∀ {r'},RdE l m i d r'→r=r':=by
 have n40:([40]:Bs)≠[45]:=by decide
 have n33:([40]:Bs)≠[33]:=by decide
 have n45:([45]:Bs)≠[33]:=by decide
 induction h with
 | deep h1 h2=>
   intro r' h'
   cases h' with
   | deep=>rfl
   | par=>omega
   | parOpen=>omega
   | parBad=>omega
   | neg=>omega
   | not=>omega
   | unBad=>omega
   | num h3 h4=>rw[sg_kind h3 (by omega)] at h1;simp[pre3] at h1
   | var h3 h4=>rw[sg_kind h3 (by omega)] at h1;simp[pre3] at h1
   | none h3=>exact absurd h1 h3
 | par h1 h2 h3 h4 ih=>
   intro r' h'
   cases h' with
   | deep=>omega
   | par _ _ k3=>cases ih k3;rfl
   | parOpen _ _ k3 k4=>cases ih k3;exact absurd h4 k4
   | parBad _ _ k3=>cases ih k3
   | neg k1=>rw[h1] at k1;exact absurd k1 n40
   | not k1=>rw[h1] at k1;exact absurd k1 n33
   | unBad k1=>rw[h1] at k1;rcases k1 with k1 | k1 <;> simp at k1
   | num k3 k4=>rw[sg_kind k3 (by omega)] at h1;cases h1
   | var k3 k4=>rw[sg_kind k3 (by omega)] at h1;cases h1
   | none k3=>exact absurd (.inr (.inr h1)) k3
 | parOpen h1 h2 h3 h4 ih=>
   intro r' h'
   cases h' with
   | deep=>omega
   | par _ _ k3 k4=>cases ih k3;exact absurd k4 h4
   | parOpen _ _ k3 k4=>cases ih k3;rfl
   | parBad _ _ k3=>cases ih k3
   | neg k1=>rw[h1] at k1;exact absurd k1 n40
   | not k1=>rw[h1] at k1;exact absurd k1 n33
   | unBad k1=>rw[h1] at k1;rcases k1 with k1 | k1 <;> simp at k1
   | num k3 k4=>rw[sg_kind k3 (by omega)] at h1;cases h1
   | var k3 k4=>rw[sg_kind k3 (by omega)] at h1;cases h1
   | none k3=>exact absurd (.inr (.inr h1)) k3
 | parBad h1 h2 h3 ih=>
   intro r' h'
   cases h' with
   | deep=>omega
   | par _ _ k3 k4=>cases ih k3
   | parOpen _ _ k3 k4=>cases ih k3
   | parBad _ _ k3=>cases ih k3;rfl
   | neg k1=>rw[h1] at k1;exact absurd k1 n40
   | not k1=>rw[h1] at k1;exact absurd k1 n33
   | unBad k1=>rw[h1] at k1;rcases k1 with k1 | k1 <;> simp at k1
   | num k3 k4=>rw[sg_kind k3 (by omega)] at h1;cases h1
   | var k3 k4=>rw[sg_kind k3 (by omega)] at h1;cases h1
   | none k3=>exact absurd (.inr (.inr h1)) k3
 | neg h1 h2 h3 ih=>
   intro r' h'
   cases h' with
   | deep=>omega
   | par k1=>rw[h1] at k1;exact absurd k1.symm n40
   | parOpen k1=>rw[h1] at k1;exact absurd k1.symm n40
   | parBad k1=>rw[h1] at k1;exact absurd k1.symm n40
   | neg _ _ k3=>cases ih k3;rfl
   | not k1=>rw[h1] at k1;exact absurd k1 n45
   | unBad _ _ k3=>cases ih k3
   | num k3 k4=>rw[sg_kind k3 (by omega)] at h1;cases h1
   | var k3 k4=>rw[sg_kind k3 (by omega)] at h1;cases h1
   | none k3=>exact absurd (.inl h1) k3
 | not h1 h2 h3 ih=>
   intro r' h'
   cases h' with
   | deep=>omega
   | par k1=>rw[h1] at k1;exact absurd k1.symm n33
   | parOpen k1=>rw[h1] at k1;exact absurd k1.symm n33
   | parBad k1=>rw[h1] at k1;exact absurd k1.symm n33
   | neg k1=>rw[h1] at k1;exact absurd k1.symm n45
   | not _ _ k3=>cases ih k3;rfl
   | unBad _ _ k3=>cases ih k3
   | num k3 k4=>rw[sg_kind k3 (by omega)] at h1;cases h1
   | var k3 k4=>rw[sg_kind k3 (by omega)] at h1;cases h1
   | none k3=>exact absurd (.inr (.inl h1)) k3
 | unBad h1 h2 h3 ih=>
   intro r' h'
   cases h' with
   | deep=>omega
   | par k1=>rw[k1] at h1;rcases h1 with h1 | h1 <;> simp at h1
   | parOpen k1=>rw[k1] at h1;rcases h1 with h1 | h1 <;> simp at h1
   | parBad k1=>rw[k1] at h1;rcases h1 with h1 | h1 <;> simp at h1
   | neg _ _ k3=>cases ih k3
   | not _ _ k3=>cases ih k3
   | unBad _ _ k3=>cases ih k3;rfl
   | num k3 k4=>rw[sg_kind k3 (by omega)] at h1;rcases h1 with h1 | h1 <;> cases h1
   | var k3 k4=>rw[sg_kind k3 (by omega)] at h1;rcases h1 with h1 | h1 <;> cases h1
   | none k3=>exact absurd (by rcases h1 with h1 | h1;exact .inl h1;exact .inr (.inl h1)) k3
 | num h1 h2=>
   intro r' h';have h0:=sg_kind h1 (by omega)
   cases h' with
   | deep k1=>rw[h0] at k1;simp[pre3] at k1
   | par k1=>rw[h0] at k1;cases k1
   | parOpen k1=>rw[h0] at k1;cases k1
   | parBad k1=>rw[h0] at k1;cases k1
   | neg k1=>rw[h0] at k1;cases k1
   | not k1=>rw[h0] at k1;cases k1
   | unBad k1=>rw[h0] at k1;rcases k1 with k1 | k1 <;> cases k1
   | num k1 k2=>rw[h1] at k1;cases k1;rfl
   | var k1 k2=>rw[h1] at k1;cases k1;omega
   | none _ k2=>exact absurd h2 (k2 _ h1).1
 | var h1 h2=>
   intro r' h';have h0:=sg_kind h1 (by omega)
   cases h' with
   | deep k1=>rw[h0] at k1;simp[pre3] at k1
   | par k1=>rw[h0] at k1;cases k1
   | parOpen k1=>rw[h0] at k1;cases k1
   | parBad k1=>rw[h0] at k1;cases k1
   | neg k1=>rw[h0] at k1;cases k1
   | not k1=>rw[h0] at k1;cases k1
   | unBad k1=>rw[h0] at k1;rcases k1 with k1 | k1 <;> cases k1
   | num k1 k2=>rw[h1] at k1;cases k1;omega
   | var k1 k2=>rw[h1] at k1;cases k1;rfl
   | none _ k2=>exact absurd h2 (k2 _ h1).2
 | none h1 h2=>
   intro r' h'
   cases h' with
   | deep k1=>exact absurd k1 h1
   | par k1=>exact absurd (.inr (.inr k1)) h1
   | parOpen k1=>exact absurd (.inr (.inr k1)) h1
   | parBad k1=>exact absurd (.inr (.inr k1)) h1
   | neg k1=>exact absurd (.inl k1) h1
   | not k1=>exact absurd (.inr (.inl k1)) h1
   | unBad k1=>exact absurd (by rcases k1 with k1 | k1;exact .inl k1;exact .inr (.inl k1)) h1
   | num k1 k2=>exact absurd k2 (h2 _ k1).1
   | var k1 k2=>exact absurd k2 (h2 _ k1).2
   | none=>rfl
 | some h1 h2 ih1 ih2=>
   intro r' h'
   cases h' with
   | some k1 k2=>cases ih1 k1;exact ih2 k2
   | someBad k1=>cases ih1 k1
 | someBad h1 ih=>
   intro r' h'
   cases h' with
   | some k1=>cases ih k1
   | someBad k1=>cases ih k1;rfl
 | stop h1=>
   intro r' h'
   cases h' with
   | stop=>rfl
   | opDeep=>omega
   | op=>omega
   | opBad=>omega
 | opDeep h1 h2=>
   intro r' h'
   cases h' with
   | stop=>omega
   | opDeep=>rfl
   | op=>omega
   | opBad=>omega
 | op h1 h2 h3 h4 ih3 ih4=>
   intro r' h'
   cases h' with
   | stop=>omega
   | opDeep=>omega
   | op _ _ k3 k4=>cases ih3 k3;exact ih4 k4
   | opBad _ _ k3=>cases ih3 k3
 | opBad h1 h2 h3 ih=>
   intro r' h'
   cases h' with
   | stop=>omega
   | opDeep=>omega
   | op _ _ k3=>cases ih k3
   | opBad _ _ k3=>cases ih k3;rfl
def Md.pos:Md→Prop
 | .one=>True
 | .some m=>1≤m
 | .loop m _=>1≤m
def Rs.within (l:List Tok) (i:Nat):Rs→Prop
 | .ok _ j=>i≤j∧j≤l.length
 | .bad j e=>i≤j∧j≤l.length∧(e=1∨e=8)
theorem RdE.within {l:List Tok} {m:Md} {i d:Nat} {r:Rs} (h:RdE l m i d r):m.pos→i≤l.length→r.within l i:=by
 have lt:∀ {i w},sg l i=w→w≠[]→i<l.length:=fun h hw=>sg_lt (by rw[h];exact hw)
 induction h with
 | deep=>intro _ hi;exact⟨Nat.le_refl _,hi,.inr rfl⟩
 | par h1 h2 h3 h4 ih=>
   intro _ hi;have a1:=lt h1 (by decide);have a2:=lt h4 (by decide);obtain⟨b1,b2⟩:=ih (Nat.le_refl 1) (by omega);exact⟨by omega,by omega⟩
 | parOpen h1 h2 h3 h4 ih=>
   intro _ hi;have a1:=lt h1 (by decide);obtain⟨b1,b2⟩:=ih (Nat.le_refl 1) (by omega);exact⟨by omega,b2,.inl rfl⟩
 | parBad h1 h2 h3 ih=>
   intro _ hi;have a1:=lt h1 (by decide);obtain⟨b1,b2,b3⟩:=ih (Nat.le_refl 1) (by omega);exact⟨by omega,b2,b3⟩
 | neg h1 h2 h3 ih=>
   intro _ hi;have a1:=lt h1 (by decide);obtain⟨b1,b2⟩:=ih trivial (by omega);exact⟨by omega,b2⟩
 | not h1 h2 h3 ih=>
   intro _ hi;have a1:=lt h1 (by decide);obtain⟨b1,b2⟩:=ih trivial (by omega);exact⟨by omega,b2⟩
 | @unBad i d j e h1 h2 h3 ih=>
   intro _ hi;have a1:i<l.length:=by rcases h1 with h1 | h1 <;> exact lt h1 (by decide)
   obtain⟨b1,b2,b3⟩:=ih trivial (by omega);exact⟨by omega,b2,b3⟩
 | num h1=>intro _ hi;have:=(List.getElem?_eq_some_iff.1 h1).1;exact⟨by omega,by omega⟩
 | var h1=>intro _ hi;have:=(List.getElem?_eq_some_iff.1 h1).1;exact⟨by omega,by omega⟩
 | none=>intro _ hi;exact⟨Nat.le_refl _,hi,.inl rfl⟩
 | @some m i d x j r h1 h2 ih1 ih2=>
   intro hp hi;obtain⟨b1,b2⟩:=ih1 trivial hi;have:=ih2 hp b2
   cases r with
   | ok y k=>exact⟨by have:=this.1;omega,this.2⟩
   | bad k e=>exact⟨by have:=this.1;omega,this.2⟩
 | someBad h1 ih=>intro _ hi;exact ih trivial hi
 | stop=>intro _ hi;exact⟨Nat.le_refl _,hi⟩
 | opDeep=>intro _ hi;exact⟨Nat.le_refl _,hi,.inr rfl⟩
 | @op m x i d y k r h1 h2 h3 h4 ih3 ih4=>
   intro hp hi;have a1:=strong_sg_lt hp h1;obtain⟨b1,b2⟩:=ih3 (by show 1≤strong (sg l i)+1;omega) (by omega);have:=ih4 hp b2
   cases r with
   | ok y k=>exact⟨by have:=this.1;omega,this.2⟩
   | bad k e=>exact⟨by have:=this.1;omega,this.2⟩
 | @opBad m x i d j e h1 h2 h3 ih=>
   intro hp hi;have a1:=strong_sg_lt hp h1;obtain⟨b1,b2,b3⟩:=ih (by show 1≤strong (sg l i)+1;omega) (by omega);exact⟨by omega,b2,b3⟩
def tSign (w:Bs):Tok:=⟨4,w,0,[],0⟩
def tNum (n:Int):Tok:=⟨2,[],n,[],0⟩
def tVar (w:Bs):Tok:=⟨6,w,0,[],0⟩
def bindsX:Ex→Nat
 | .mk k _ _ op _=>if k=4 then strong op else if 2≤k then 7 else 8
def shutT (b m:Nat) (T:List Tok):List Tok:=if b<m then tSign [40]::(T++[tSign [41]]) else T
mutual
def tokP:Ex→List Tok
 | .mk k n nm op ks=>if k=0 then [tNum n] else if k=1 then [tVar nm] else if k=2 then tSign [45]::tokKs [] 7 ks else if k=3 then tSign [33]::tokKs [] 7 ks
   else if k=4 then tokKs [tSign op] (strong op) ks else []
def tokKs (sep:List Tok) (m:Nat):List Ex→List Tok
 | []=>[]
 | x::r=>shutT (bindsX x) m (tokP x)++(sep++tokKs [] (m+1) r)
end
def tokX (e:Ex) (m:Nat):List Tok:=shutT (bindsX e) m (tokP e)
theorem tok_num (n:Int):tokP (exNum n)=[tNum n]:=by simp[exNum,tokP]
theorem tok_var (w:Bs):tokP (exVar w)=[tVar w]:=by simp[exVar,tokP]
theorem tok_neg (x:Ex):tokP (exNeg x)=tSign [45]::tokX x 7:=by simp[exNeg,tokP,tokKs,tokX]
theorem tok_not (x:Ex):tokP (exNot x)=tSign [33]::tokX x 7:=by simp[exNot,tokP,tokKs,tokX]
theorem tok_bin (op:Bs) (x y:Ex):tokP (exBin op x y)=tokX x (strong op)++tSign op::tokX y (strong op+1):=by simp[exBin,tokP,tokKs,tokX]
def shapeX (k n:Int) (nm op:Bs) (c:Nat):Bool:=
 if k=0 then decide (0≤n) && nm.isEmpty && op.isEmpty && c==0
 else if k=1 then decide (n=0) && isName nm && op.isEmpty && c==0
 else if k=2∨k=3 then decide (n=0) && nm.isEmpty && op.isEmpty && c==1
 else if k=4 then decide (n=0) && nm.isEmpty && (strong op != 0) && c==2 else false
mutual
def mayX:Ex→Nat→Bool
 | .mk k n nm op ks,d=>shapeX k n nm op ks.length && (ks.isEmpty || decide (d<64)) && mayL ks (d+1)
def mayL:List Ex→Nat→Bool
 | [],_=>true
 | x::r,d=>mayX x d && mayL r d
end
theorem mayL_all:∀ {l:List Ex} {d:Nat},mayL l d=true→∀ x∈l,mayX x d=true
 | [],d,_,x,hx=>by cases hx
 | y::l,d,h,x,hx=>by
   rw[mayL,Bool.and_eq_true] at h
   rcases List.mem_cons.1 hx with rfl | hx
   ·exact h.1
   ·exact mayL_all h.2 x hx
theorem mayX_cases {e:Ex} {d:Nat} (h:mayX e d=true):(∃ n,e=exNum n∧0≤n)∨(∃ w,e=exVar w∧isName w=true)∨(∃ x,e=exNeg x∧d<64∧mayX x (d+1)=true)∨(∃ x,e=exNot x∧d<64∧mayX x (d+1)=true)∨
  ∃ op x y,e=exBin op x y∧1≤strong op∧d<64∧mayX x (d+1)=true∧mayX y (d+1)=true:=by
 obtain⟨k,n,nm,op,ks⟩:=e;rw[mayX,Bool.and_eq_true,Bool.and_eq_true] at h;obtain⟨⟨h1,h2⟩,h3⟩:=h;unfold shapeX at h1
 split at h1
 ·rename_i hk;subst hk
  simp at h1;obtain⟨⟨⟨a1,rfl⟩,rfl⟩,rfl⟩:=h1;exact .inl ⟨n,rfl,a1⟩
 split at h1
 ·rename_i hk;subst hk
  simp at h1;obtain⟨⟨⟨rfl,a2⟩,rfl⟩,rfl⟩:=h1;exact .inr (.inl ⟨nm,rfl,a2⟩)
 split at h1
 ·rename_i hk
  simp at h1;obtain⟨⟨⟨rfl,rfl⟩,rfl⟩,h4⟩:=h1;obtain⟨x,rfl⟩:=List.length_eq_one_iff.1 h4;have hd:d<64:=by simpa using h2
  have hx:=mayL_all h3 x (by simp)
  rcases hk with rfl | rfl
  ·exact .inr (.inr (.inl ⟨x,rfl,hd,hx⟩))
  ·exact .inr (.inr (.inr (.inl ⟨x,rfl,hd,hx⟩)))
 split at h1
 ·rename_i hk;subst hk
  simp at h1;obtain⟨⟨⟨rfl,rfl⟩,h5⟩,h4⟩:=h1
  obtain⟨x,y,rfl⟩:∃ x y,ks=[x,y]:=by
   match ks,h4 with
   | [x,y],_=>exact⟨x,y,rfl⟩
  have hd:d<64:=by simpa using h2
  exact .inr (.inr (.inr (.inr ⟨op,x,y,rfl,by omega,hd,mayL_all h3 x (by simp),mayL_all h3 y (by simp)⟩)))
 ·cases h1
def Deep (l:List Tok) (m:Md) (i d:Nat):Prop:=∃ j,RdE l m i d (.bad j 8)
theorem gap_shut:∀ (m:Bool) (l:Bs),gap m (l++[10,41])=if gap m l<l.length then gap m l else l.length+1
 | true,[]=>by decide
 | false,[]=>by decide
 | true,c::l=>by
   rw[List.cons_append,gap_true,gap_true,gap_shut _ l,List.length_cons]
   split
   ·rw[if_pos (by omega)]
   ·rw[if_neg (by omega)]
 | false,c::l=>by
   rw[List.cons_append,gap_false,gap_false]
   split
   ·rw[gap_shut false l,List.length_cons]
    split
    ·rw[if_pos (by omega)]
    ·rw[if_neg (by omega)]
   ·split
    ·rw[gap_shut true l,List.length_cons]
     split
     ·rw[if_pos (by omega)]
     ·rw[if_neg (by omega)]
    ·rw[if_pos (by simp)]
theorem behind_shut (s:Bs) (k:Nat) (hk:k≤s.length):behind (s++[10,41]) k=if behind s k<s.length then behind s k else s.length+1:=by
 unfold behind;have hl:(s.drop k).length=s.length - k:=List.length_drop;rw[List.drop_append_of_le_length hk,gap_shut false (s.drop k),hl];by_cases h:gap false (s.drop k)<s.length - k
 ·rw[if_pos h,if_pos (by omega)]
 ·rw[if_neg h,if_neg (by omega)];omega
theorem sign_line (c:UInt8):isSignL [c,10]=false:=by
 unfold isSignL sgns;simp
theorem lowHead_shut (r:Bs):lowHead (r++[10,41])=lowHead r:=by
 cases r with
 | nil=>exact(by decide:isLow 10=false)
 | cons c r=>rfl
theorem signL_shut (c:UInt8) (r:Bs):signL (c::r++[10,41])=signL (c::r):=by
 cases r with
 | nil=>
   unfold signL;have e1:([c]++[10,41]:Bs).take 2=[c,10]:=rfl;have e2:([c]++[10,41]:Bs).take 1=[c]:=rfl;have e3:([c]:Bs).take 2=[c]:=rfl;have e4:([c]:Bs).take 1=[c]:=rfl;rw[e1,e2,e3,e4,sign_line,if_neg (by decide)];by_cases h:isSignL [c]=true
   ·rw[if_pos h,if_pos h];rfl
   ·rw[if_neg h,if_neg h]
 | cons d r=>rfl
theorem tokR_shut (l:Bs) (hl:l≠[]) {t:Tok} {q:Nat} (h:tokR l= .ok t q):tokR (l++[10,41])= .ok t q:=by
 have hx:∀ p:UInt8→Bool,p 10=false→p 41=false→∀ c∈([10,41]:Bs),p c=false:=fun p h1 h2 c hc=>by
  simp at hc
  rcases hc with rfl | rfl
  ·exact h1
  ·exact h2
 cases l with
 | nil=>exact absurd rfl hl
 | cons c r=>
   by_cases h34:c=34
   ·have e1:tokR (c::r)=textR (c::r):=by unfold tokR;dsimp only;rw[if_pos h34]
    have e2:tokR (c::r++[10,41])=textR (c::r++[10,41]):=by unfold tokR;rw[List.cons_append];dsimp only;rw[if_pos h34]
    rw[e1] at h;rw[e2];unfold textR at h ⊢
    cases hp:parse (c::r) with
    | mk o q=>
      rw[hp] at h
      cases o with
      | some ps=>rw[parse_app hp [10,41]];exact h
      | none=>cases h
   ·have e:tokR (c::r++[10,41])=tokR (c::r):=by
     have r1:=runL_app isDig (c::r) [10,41] (hx isDig (by decide) (by decide));have r2:=runL_app isIn (c::r) [10,41] (hx isIn (by decide) (by decide));have r3:=runL_app isIn r [10,41] (hx isIn (by decide) (by decide));have r4:=runL_app isLow r [10,41] (hx isLow (by decide) (by decide));have r5:=lowHead_shut r;have r6:=signL_shut c r;unfold tokR;rw[List.cons_append] at r1 r2 r6 ⊢;dsimp only;rw[if_neg h34,if_neg h34];unfold numT;rw[r1,r2,r3,r4,r5,r6];have t1:(c::(r++[10,41])).take (runL isDig (c::r))=(c::r).take (runL isDig (c::r)):=take_app (l:=c::r) (runL_le _ _) _;have t2:(c::(r++[10,41])).take (runL isIn (c::r))=(c::r).take (runL isIn (c::r)):=take_app (l:=c::r) (runL_le _ _) _;have t3:(r++[10,41]).take (runL isIn r)=r.take (runL isIn r):=take_app (runL_le _ _) _;have t4:(r++[10,41]).take (runL isLow r)=r.take (runL isLow r):=take_app (runL_le _ _) _;have t6:(c::(r++[10,41])).take (signL (c::r))=(c::r).take (signL (c::r)):=take_app (l:=c::r) (signL_le _) _;rw[t1,t2,t3,t4,t6]
    rw[e];exact h
theorem tokR_close:tokR [41]= .ok (tSign [41]) 1:=by rfl
theorem drop_shut (s:Bs):(s++[10,41]).drop (s.length+1)=[41]:=by
 rw[List.drop_append];simp
theorem goT_shut (s:Bs) (k:Nat) (acc:List Tok):∀ out,k≤s.length→goT s k acc=(some out,0,0)→goT (s++[10,41]) (if k<s.length then k else s.length+1) acc=(some (out++[withPl (tSign [41]) ((s.length+1:Nat):Int)]),0,0):=by
 refine goT_all (s:=s) (P:=fun k acc=>∀ out,k≤s.length→goT s k acc=(some out,0,0)→goT (s++[10,41]) (if k<s.length then k else s.length+1) acc=(some (out++[withPl (tSign [41]) ((s.length+1:Nat):Int)]),0,0)) ?_ ?_ ?_ k acc
 ·intro k acc h out hk ho
  rw[goT_end acc h] at ho;injection ho with ho _
  injection ho with ho
  subst ho;have hlen:(s++[10,41]).length=s.length+2:=by simp
  rw[if_neg h,goT_ok acc (by omega) (by rw[drop_shut];exact tokR_close)]
  have hb:behind (s++[10,41]) (s.length+1+1)=s.length+2:=by
   unfold behind;rw[List.drop_eq_nil_of_le (by omega),gap_nil]
  rw[hb];exact goT_end _ (by omega)
 ·intro k acc q e h h1 out _ ho
  rw[goT_bad acc h h1] at ho;cases ho
 ·intro k acc t q h h1 q0 q1 q2 ih out hk ho
  rw[goT_ok acc h h1] at ho;have h2:=tokR_shut (s.drop k) (by intro e;have:=congrArg List.length e;rw[List.length_drop,List.length_nil] at this;omega) h1;rw[←List.drop_append_of_le_length hk] at h2;have ih:=ih out q2 ho;rw[if_pos h,goT_ok acc (by simp;omega) h2,behind_shut s _ q1];exact ih
theorem tokR_open (r:Bs):tokR (40::r)= .ok (tSign [40]) 1:=by
 have hs:signL (40::r)=1:=by
  cases r with
  | nil=>decide
  | cons d r=>
    unfold signL;have e1:((40::d::r:Bs).take 2)=[40,d]:=rfl;have e2:((40::d::r:Bs).take 1)=[40]:=rfl
    have e3:isSignL [40,d]=false:=by
     unfold isSignL sgns;simp
    rw[e1,e2,e3,if_neg (by decide),if_pos (by decide)]
 unfold tokR;dsimp only;rw[if_neg (by decide),if_neg (by decide),if_neg (by decide),if_neg (by decide),if_neg (fun h=>absurd h.1 (by decide)),hs]
 rfl
theorem goT_acc (s:Bs) (a:List Tok) (k:Nat) (acc:List Tok):∀ out,goT s k acc=(some out,0,0)→goT s k (a++acc)=(some (a++out),0,0):=by
 refine goT_all (s:=s) (P:=fun k acc=>∀ out,goT s k acc=(some out,0,0)→goT s k (a++acc)=(some (a++out),0,0)) ?_ ?_ ?_ k acc
 ·intro k acc h out ho
  rw[goT_end acc h] at ho;injection ho with ho _
  injection ho with ho
  subst ho;exact goT_end _ h
 ·intro k acc q e h h1 out ho
  rw[goT_bad acc h h1] at ho;cases ho
 ·intro k acc t q h h1 _ _ _ ih out ho
  rw[goT_ok acc h h1] at ho;rw[goT_ok _ h h1,List.append_assoc];exact ih out ho
theorem scan_brackets (s:Bs) (hl:s.length≤1900) (out:List Tok) (h:scan s=(some out,0,0)):∃ out',scan (40::(s++[10,41]))=(some out',0,0)∧noPl out'=tSign [40]::(noPl out++[tSign [41]]):=by
 unfold scan at h ⊢;rw[if_neg (by omega)] at h;rw[if_neg (by simp;omega)];have h0:=goT_shut s (behind s 0) [] out (behind_le s 0 (Nat.zero_le _)) h;rw[←behind_shut s 0 (Nat.zero_le _)] at h0
 have hb:behind (40::(s++[10,41])) 0=0:=by
  unfold behind;rw[List.drop_zero,gap_false,if_neg (by decide),if_neg (by decide)]
 rw[hb,goT_ok [] (by simp) (by rw[List.drop_zero];exact tokR_open _)];have e1:(40::(s++[10,41]):Bs)=[40]++(s++[10,41]):=rfl;have hp:=behind_pre [40] (s++[10,41]) 0;rw[show (0+1:Nat)=([40]:Bs).length+0 from rfl,e1,hp];have h1:=goT_acc _ [withPl (tSign [40]) 0] _ _ _ h0;obtain⟨out',o1,o2⟩:=goT_pre [40] (s++[10,41]) (behind (s++[10,41]) 0) _ ([]++[withPl (tSign [40]) 0]) _ rfl h1;refine⟨out',o1,?_⟩;rw[o2,noPl_append,noPl_append]
 rfl
theorem noPl_get (l:List Tok) (i:Nat):(noPl l)[i]?=(l[i]?).map fun t=>withPl t 0:=by unfold noPl;rw[List.getElem?_map]
theorem like_of {l:List Tok} {i:Nat} {t:Tok} (h:(noPl l)[i]?=some (withPl t 0)):∃ t',l[i]?=some t'∧t'.kind=t.kind∧t'.word=t.word∧t'.n=t.n:=by
 rw[noPl_get] at h;obtain⟨t',h1,h2⟩:=Option.map_eq_some_iff.1 h;have e1:(withPl t' 0).kind=(withPl t 0).kind:=by rw[h2]
 have e2:(withPl t' 0).word=(withPl t 0).word:=by rw[h2]
 have e3:(withPl t' 0).n=(withPl t 0).n:=by rw[h2]
 exact⟨t',h1,e1,e2,e3⟩
structure Brk (l l':List Tok):Prop where
 in_:∀ i t,l[i]?=some t→∃ t',l'[i+1]?=some t'∧t'.kind=t.kind∧t'.word=t.word∧t'.n=t.n
 first:sg l' 0=[40]
 last:sg l' (l.length+1)=[41]
 len:l'.length=l.length+2
theorem brk_of {l l':List Tok} (h:noPl l'=tSign [40]::(noPl l++[tSign [41]])):Brk l l':=by
 have hlen:(noPl l).length=l.length:=by simp[noPl]
 have hsg:∀ i w,(noPl l')[i]?=some (tSign w)→sg l' i=w:=fun i w hi=>by
  obtain⟨t',h1,h2,h3,_⟩:=like_of (t:=tSign w) hi;unfold sg;rw[h1];dsimp only;rw[if_pos (show t'.kind=4 from h2),h3];rfl
 refine⟨fun i t hi=>like_of ?_,hsg 0 _ (by rw[h];rfl),hsg _ _ ?_,?_⟩
 ·have hi':=(List.getElem?_eq_some_iff.1 hi).1
  rw[h,List.getElem?_cons_succ,List.getElem?_append_left (by omega),noPl_get,hi];rfl
 ·rw[h,List.getElem?_cons_succ,List.getElem?_append_right (by omega),hlen,Nat.sub_self];rfl
 ·have:=congrArg List.length h
  simpa[noPl] using this
theorem Brk.sg_in {l l':List Tok} (b:Brk l l') {i:Nat} (hi:i<l.length):sg l' (i+1)=sg l i:=by
 obtain⟨t',h1,h2,h3,_⟩:=b.in_ i _ (List.getElem?_eq_getElem hi);unfold sg;rw[h1,List.getElem?_eq_getElem hi];dsimp only;rw[h2,h3]
theorem Brk.sg_eq {l l':List Tok} (b:Brk l l') {i:Nat} {w:Bs} (h:sg l i=w) (hw:w≠[]):sg l' (i+1)=w:=by
 rw[b.sg_in (sg_lt (by rw[h];exact hw)),h]
theorem Brk.weak {l l':List Tok} (b:Brk l l') {i m:Nat} (hm:1≤m) (hi:i≤l.length) (h:strong (sg l i)<m):strong (sg l' (i+1))<m:=by
 by_cases a:i<l.length
 ·rw[b.sg_in a];exact h
 ·rw[show i=l.length by omega,b.last,show strong [41]=0 by decide];omega
theorem shift_all {l l':List Tok} (b:Brk l l') {m:Md} {i d:Nat} {r:Rs} (h:RdE l m i d r):∀ x j,r= .ok x j→m.pos→i≤l.length→RdE l' m (i+1) (d+1) (.ok x (j+1))∨Deep l' m (i+1) (d+1):=by
 induction h with
 | deep=>intro x j h;cases h
 | @par i d x j h1 h2 h3 h4 ih=>
   intro x' j' h _ hi
   cases h
   have a1:i<l.length:=sg_lt (by rw[h1];decide);have s1:=b.sg_eq h1 (by decide);have s4:=b.sg_eq h4 (by decide);by_cases hd:d+1<64
   ·rcases ih x j rfl (Nat.le_refl 1) (by omega) with g | ⟨q,g⟩
    ·exact .inl (.par s1 hd g s4)
    ·exact .inr ⟨q,.parBad s1 hd g⟩
   ·exact .inr ⟨_,.deep (by rw[s1];exact .inr (.inr rfl)) (by omega)⟩
 | parOpen=>intro x j h;cases h
 | parBad=>intro x j h;cases h
 | @neg i d x j h1 h2 h3 ih=>
   intro x' j' h _ hi
   cases h
   have a1:i<l.length:=sg_lt (by rw[h1];decide);have s1:=b.sg_eq h1 (by decide);by_cases hd:d+1<64
   ·rcases ih x j rfl trivial (by omega) with g | ⟨q,g⟩
    ·exact .inl (.neg s1 hd g)
    ·exact .inr ⟨q,.unBad (.inl s1) hd g⟩
   ·exact .inr ⟨_,.deep (by rw[s1];exact .inl rfl) (by omega)⟩
 | @not i d x j h1 h2 h3 ih=>
   intro x' j' h _ hi
   cases h
   have a1:i<l.length:=sg_lt (by rw[h1];decide);have s1:=b.sg_eq h1 (by decide);by_cases hd:d+1<64
   ·rcases ih x j rfl trivial (by omega) with g | ⟨q,g⟩
    ·exact .inl (.not s1 hd g)
    ·exact .inr ⟨q,.unBad (.inr s1) hd g⟩
   ·exact .inr ⟨_,.deep (by rw[s1];exact .inr (.inl rfl)) (by omega)⟩
 | unBad=>intro x j h;cases h
 | @num i d t h1 h2=>
   intro x' j' h _ hi
   cases h
   obtain⟨t',k1,k2,_,k4⟩:=b.in_ i t h1;rw[←k4];exact .inl (.num k1 (by rw[k2,h2]))
 | @var i d t h1 h2=>
   intro x' j' h _ hi
   cases h
   obtain⟨t',k1,k2,k3,_⟩:=b.in_ i t h1;rw[←k3];exact .inl (.var k1 (by rw[k2,h2]))
 | none=>intro x j h;cases h
 | @some m i d x j r h1 h2 ih1 ih2=>
   intro x' j' h hp hi
   rcases ih1 x j rfl trivial hi with g | ⟨q,g⟩
   ·rcases ih2 x' j' h hp (h1.within trivial hi).2 with g2 | ⟨q,g2⟩
    ·exact .inl (.some g g2)
    ·exact .inr ⟨q,.some g g2⟩
   ·exact .inr ⟨q,.someBad g⟩
 | someBad=>intro x j h;cases h
 | stop h1=>
   intro x' j' h hp hi
   cases h
   exact .inl (.stop (b.weak hp hi h1))
 | opDeep=>intro x j h;cases h
 | @op m x i d y k r h1 h2 h3 h4 ih3 ih4=>
   intro x' j' h hp hi;have a1:=strong_sg_lt hp h1;have s1:=b.sg_in a1;have hm:m≤strong (sg l' (i+1)):=by rw[s1];exact h1
   by_cases hd:d+1<64
   ·have hpos:(Md.some (strong (sg l i)+1)).pos:=by show 1≤strong (sg l i)+1;omega
    rcases ih3 y k rfl hpos (by omega) with g | ⟨q,g⟩
    ·rcases ih4 x' j' h hp (h3.within hpos (by omega)).2 with g2 | ⟨q,g2⟩
     ·exact .inl (.op hm hd (by rw[s1];exact g) (by rw[s1];exact g2))
     ·exact .inr ⟨q,.op hm hd (by rw[s1];exact g) (by rw[s1];exact g2)⟩
    ·exact .inr ⟨q,.opBad hm hd (by rw[s1];exact g)⟩
   ·exact .inr ⟨_,.opDeep hm (by omega)⟩
 | opBad=>intro x j h;cases h
theorem read_brackets {l l':List Tok} (b:Brk l l') {x:Ex} (h:RdE l (.some 1) 0 0 (.ok x l.length)) {r:Rs} (hr:RdE l' (.some 1) 0 0 r):r= .ok x (l.length+2)∨∃ j,r= .bad j 8:=by
 rcases shift_all b h x l.length rfl (Nat.le_refl 1) (Nat.zero_le _) with g | ⟨q,g⟩
 ·left
  refine hr.det (.some (.par (b.first) (by omega) g b.last) (.stop ?_));rw[sg_past (by rw[b.len];omega),strong_nil];omega
 ·exact .inr ⟨q,hr.det (.someBad (.parBad (b.first) (by omega) g))⟩
theorem blockX_add (a:Addr) (n:Nat):(a.add n).block=a.block:=by unfold Addr.add;split <;> rfl
def valX (r:Ex) (A:Option Addr) (c:Nat):Value:=match r with
 | .mk k n nm op ks=> .agg #[.int .i64 k,.int .i64 n,.string ⟨nm.toArray⟩,.string ⟨op.toArray⟩,.slice A ks.length c]
def AtX (w:World) (a:Addr) (r:Ex) (A:Option Addr) (c:Nat):Prop:=match r with
 | .mk k n nm op ks=>
   w.cell? a=some (.int .i64 k)∧w.cell? ⟨a.block,a.off+1,none⟩=some (.int .i64 n)∧w.cell? ⟨a.block,a.off+2,none⟩=some (.string ⟨nm.toArray⟩)∧
   w.cell? ⟨a.block,a.off+3,none⟩=some (.string ⟨op.toArray⟩)∧w.cell? ⟨a.block,a.off+4,none⟩=some (.slice A ks.length c)
mutual
def KidsX (P:Nat→Prop) (w:World) (A:Option Addr):Ex→Prop
 | .mk _ _ _ _ ks=>ks=[]∨∃ ad,A=some ad∧P ad.block∧KidsXL P w ad 0 ks
def KidsXL (P:Nat→Prop) (w:World) (ad:Addr) (i:Nat):List Ex→Prop
 | []=>True
 | r::rs=>(∃ A c,AtX w (ad.add (i * 5)) r A c∧KidsX P w A r)∧KidsXL P w ad (i+1) rs
end
theorem kidsXL_at {P:Nat→Prop} {w:World} {ad:Addr}:∀ {l:List Ex} {i k:Nat} {r:Ex},KidsXL P w ad i l→l[k]?=some r→∃ A c,AtX w (ad.add ((i+k) * 5)) r A c∧KidsX P w A r
 | [],i,k,r,_,hk=>by simp at hk
 | x::l,i,0,r,h,hk=>by
   injection hk with hk;subst hk
   rw[KidsXL] at h;exact h.1
 | x::l,i,k+1,r,h,hk=>by
   rw[KidsXL] at h;have:=kidsXL_at h.2 (k:=k) (r:=r) (by simpa using hk);rw[show i+(k+1)=i+1+k by omega];exact this
theorem AtX.keep {w w':World} {a:Addr} {r:Ex} {A:Option Addr} {c:Nat} (h:AtX w a r A c) (hb:∀ p:Addr,p.block=a.block→w'.cell? p=w.cell? p):AtX w' a r A c:=by
 obtain⟨k,n,nm,op,ks⟩:=r;obtain⟨a0,a1,a2,a3,a4⟩:=h;exact⟨(hb a rfl).trans a0,(hb ⟨a.block,a.off+1,none⟩ rfl).trans a1,(hb ⟨a.block,a.off+2,none⟩ rfl).trans a2,(hb ⟨a.block,a.off+3,none⟩ rfl).trans a3,(hb ⟨a.block,a.off+4,none⟩ rfl).trans a4⟩
theorem kidsXL_of {P Q:Nat→Prop} {w w':World} (ad:Addr) (hs:∀ p:Addr,P p.block→w'.cell? p=w.cell? p) (hp:P ad.block):∀ (l:List Ex) (i:Nat),(∀ r∈l,∀ A,KidsX P w A r→KidsX Q w' A r)→KidsXL P w ad i l→KidsXL Q w' ad i l
 | [],i,_,h=>by rw[KidsXL];trivial
 | r::l,i,ih,h=>by
   rw[KidsXL] at h ⊢;obtain⟨⟨A,c,h1,h2⟩,h3⟩:=h;exact⟨⟨A,c,h1.keep (fun p hpb=>hs p (by rw[hpb,blockX_add];exact hp)),ih r (by simp) A h2⟩,kidsXL_of ad hs hp l (i+1) (fun r hr=>ih r (by simp[hr])) h3⟩
theorem kidsX_of {P Q:Nat→Prop} {w w':World} (hs:∀ p:Addr,P p.block→w'.cell? p=w.cell? p) (hPQ:∀ k,P k→Q k):∀ (r:Ex) (A:Option Addr),KidsX P w A r→KidsX Q w' A r:=by
 intro r
 induction r using Ex.ind with
 | h k n nm op ks ih=>
   intro A h;rw[KidsX] at h ⊢
   rcases h with h | ⟨ad,rfl,hp,hl⟩
   ·exact .inl h
   ·exact .inr ⟨ad,rfl,hPQ _ hp,kidsXL_of ad hs hp ks 0 ih hl⟩
def LtX (B:Nat):Nat→Prop:=fun k=>k<B
theorem KidsX.next {w w':World} {A:Option Addr} {r:Ex} (h:KidsX (LtX w.heap.size) w A r) (hb:Below w.heap.size w w'):KidsX (LtX w'.heap.size) w' A r:=kidsX_of (fun _ h=>hb.cell h) (fun _ h=>Nat.lt_of_lt_of_le h hb.size) r A h
theorem kidX_at {w wr:World} {A:Option Addr} {r x:Ex} {j:Nat} (h:KidsX (LtX w.heap.size) w A r) (hb:Below w.heap.size w wr) (hx:r.kids[j]?=some x):
  ∃ ad A' c',A=some ad∧ad.block<w.heap.size∧AtX wr (ad.add (j * 5)) x A' c'∧KidsX (LtX w.heap.size) w A' x:=by
 obtain⟨k0,n,nm,op,ks⟩:=r;rw[KidsX] at h
 rcases h with h | ⟨ad,rfl,hp,hl⟩
 ·simp[Ex.kids,h] at hx
 ·obtain⟨A',c,h1,h2⟩:=kidsXL_at hl hx
  rw[Nat.zero_add] at h1;exact⟨ad,A',c,rfl,hp,h1.keep (fun p hpb=>hb.cell (by rw[hpb,blockX_add];exact hp)),h2⟩
theorem getX_of_lt {α:Type} {l:List α} {k n:Nat} (hn:n=l.length) (h:k<n):∃ p,l[k]?=some p:=⟨_,List.getElem?_eq_getElem (by omega)⟩
mutual
def sizeX:Ex→Nat
 | .mk _ _ _ _ ks=>1+sizeXL ks
def sizeXL:List Ex→Nat
 | []=>0
 | r::rs=>sizeX r+sizeXL rs
end
theorem sizeXL_mem {l:List Ex} {r:Ex} (h:r∈l):sizeX r≤sizeXL l:=by
 induction l with
 | nil=>cases h
 | cons x l ih=>
   rw[sizeXL]
   rcases List.mem_cons.1 h with rfl | h
   ·omega
   ·have:=ih h;omega
theorem sizeXL_len (l:List Ex):l.length≤sizeXL l:=by
 induction l with
 | nil=>simp[sizeXL]
 | cons x l ih=>rw[sizeXL,List.length_cons];cases x;rw[sizeX];omega
mutual
def nmX:Ex→Nat
 | .mk _ _ nm _ ks=>nm.length+nmXL ks
def nmXL:List Ex→Nat
 | []=>0
 | r::rs=>nmX r+nmXL rs
end
theorem nmXL_mem {l:List Ex} {r:Ex} (h:r∈l):nmX r≤nmXL l:=by
 induction l with
 | nil=>cases h
 | cons x l ih=>
   rw[nmXL]
   rcases List.mem_cons.1 h with rfl | h
   ·omega
   ·have:=ih h;omega
noncomputable def eqB {α:Type} (a b:α):Bool:=@decide (a=b) (Classical.propDecidable _)
theorem eqB_no {α:Type} {a b:α} (h:a≠b):eqB a b=false:=@decide_eq_false _ (Classical.propDecidable _) h
theorem eqB_yes {α:Type} {a b:α} (h:a=b):eqB a b=true:=@decide_eq_true _ (Classical.propDecidable _) h
theorem eqB_of {α:Type} {a b:α} (h:eqB a b=true):a=b:=@of_decide_eq_true _ (Classical.propDecidable _) h
theorem eqB_not {α:Type} {a b:α} (h:eqB a b=false):a≠b:=fun e=>by rw[eqB_yes e] at h;cases h
theorem take_eqX {α:Type} {a b:List α} {k:Nat} {p:α} (h:a.take k=b.take k) (h1:a[k]?=some p) (h2:b[k]?=some p):a.take (k+1)=b.take (k+1):=by
 obtain⟨hk,e⟩:=List.getElem?_eq_some_iff.1 h1;obtain⟨hk',e'⟩:=List.getElem?_eq_some_iff.1 h2;rw[List.take_succ_eq_append_getElem hk,List.take_succ_eq_append_getElem hk',h,e,e']
theorem not_eqX {α:Type} {a b:List α} {k:Nat} {p q:α} (h1:a[k]?=some p) (h2:b[k]?=some q) (h:p≠q):a≠b:=by
 rintro rfl;rw[h1] at h2;injection h2 with h2;exact h h2
theorem nameX_eq {x y:Bs} {X Y:ByteArray} (hX:X=⟨x.toArray⟩) (hY:Y=⟨y.toArray⟩):(X.toList==Y.toList)=eqB x y:=by
 rw[toList_data,toList_data,hX,hY];by_cases h:x=y
 ·rw[eqB_yes h,h];simp
 ·rw[eqB_no h];simpa using h
def AtXB (w:World) (a:Addr) (r:Ex) (A:Option Addr) (c:Nat):Prop:=match r with
 | .mk k n nm op ks=>
   (∀ x:Bw w,x.at.cell? a=some (.int .i64 k))∧(∀ x:Bw w,x.at.cell? ⟨a.block,a.off+1,none⟩=some (.int .i64 n))∧(∀ x:Bw w,x.at.cell? ⟨a.block,a.off+2,none⟩=some (.string ⟨nm.toArray⟩))∧
   (∀ x:Bw w,x.at.cell? ⟨a.block,a.off+3,none⟩=some (.string ⟨op.toArray⟩))∧(∀ x:Bw w,x.at.cell? ⟨a.block,a.off+4,none⟩=some (.slice A ks.length c))
theorem AtX.later {w:World} {a:Addr} {r:Ex} {A:Option Addr} {c:Nat} (h:AtX w a r A c):AtXB w a r A c:=by
 obtain⟨k,n,nm,op,ks⟩:=r;obtain⟨a0,a1,a2,a3,a4⟩:=h;exact⟨bw_cell a0,bw_cell a1,bw_cell a2,bw_cell a3,bw_cell a4⟩
theorem two_boxesX (w:World) (o o':Obj):Below w.heap.size w ((w.alloc o).alloc o'):=((Below.refl _ _).alloc (Nat.le_refl _) _).alloc (by simp) _
def SameXC (f:Nat) (x:Ex):Prop:=∀ (y:Ex) (A A':Option Addr) (c c':Nat) (w:World),KidsX (LtX w.heap.size) w A x→KidsX (LtX w.heap.size) w A' y→sizeX x≤1000000→sizeX y≤1000000→
 Calls Tryd.prog f #[valX x A c,valX y A' c'] w fun e w'=>e= .returned (.bool (eqB x y))∧Below w.heap.size w w'
theorem rsameX_any (x:Ex):SameXC 7 x:=by
 induction x using Ex.ind with
 | h k n nm op ks ih=>
   intro y A A' c c' w hk hk' hs hs';obtain⟨k2,n2,nm2,op2,ks2⟩:=y;obtain⟨v,hv⟩:∃ v,v=eqB (Ex.mk k n nm op ks) (Ex.mk k2 n2 nm2 op2 ks2):=⟨_,rfl⟩;rw[←hv];rw[sizeX] at hs hs';have HV:=Lib.hid hv;simp only[valX];obtain⟨m,hm⟩:∃ m,m=ks.length:=⟨_,rfl⟩;obtain⟨m2,hm2⟩:∃ m,m=ks2.length:=⟨_,rfl⟩;have hmx:=sizeXL_len ks;have hm9:m≤1000000:=by omega
   obtain⟨X,hX⟩:∃ X:ByteArray,X=⟨nm.toArray⟩:=⟨_,rfl⟩;obtain⟨X2,hX2⟩:∃ X:ByteArray,X=⟨nm2.toArray⟩:=⟨_,rfl⟩;obtain⟨Y,hY⟩:∃ X:ByteArray,X=⟨op.toArray⟩:=⟨_,rfl⟩;obtain⟨Y2,hY2⟩:∃ X:ByteArray,X=⟨op2.toArray⟩:=⟨_,rfl⟩;have gx:=nameX_eq hX hX2;have gy:=nameX_eq hY hY2;rw[←hm,←hm2,←hX,←hX2,←hY,←hY2];have HK:=Lib.hid hk;have HK':=Lib.hid hk';have HI:=Lib.hid ih;have HS:=Lib.hid hs;have HS':=Lib.hid hs';have HM:=Lib.hid hm;have HM':=Lib.hid hm2;clear hv ih hk hk' hs hs' hX hX2 hY hY2 hm hm2 hmx;by_cases f1:k=k2
   ·by_cases f2:n=n2
    ·by_cases f3:nm=nm2
     ·by_cases f4:op=op2
      ·by_cases f6:m=m2
       ·have HX:Hid (∀ b,eqB ks ks2=b→v=b):=Lib.hid (by
         rintro b rfl;rw[HV.out];by_cases hkk:ks=ks2
         ·rw[eqB_yes hkk,eqB_yes (by rw[f1,f2,f3,f4,hkk])]
         ·rw[eqB_no hkk,eqB_no (fun h=>hkk (by injection h))])
        have g1:(k != k2)=false:=by simp[f1]
        have g2:(n != n2)=false:=by simp[f2]
        rw[eqB_yes f3] at gx;rw[eqB_yes f4] at gy;have g6:((m:Int) != (m2:Int))=false:=by simp[f6]
        have g7:(m != m2)=false:=by simp[f6]
        subst f1 f2 f6;clear f3 f4;obtain⟨o1,ho1⟩:∃ o:Obj,o= .cells #[.int .i64 k,.int .i64 n,.string X,.string Y,.slice A m c] 28:=⟨_,rfl⟩;obtain⟨o2,ho2⟩:∃ o:Obj,o= .cells #[.int .i64 k,.int .i64 n,.string X2,.string Y2,.slice A' m c'] 28:=⟨_,rfl⟩;have hbo:Below w.heap.size w ((w.alloc o1).alloc o2):=two_boxesX w o1 o2;have hc5:((w.alloc o1).alloc o2).cell? ⟨w.heap.size,4,none⟩=some (.slice A m c):=by rw[ho1];simp[go_sem]
        have hd5:((w.alloc o1).alloc o2).cell? ⟨w.heap.size+1,4,none⟩=some (.slice A' m c'):=by rw[ho2];simp[go_sem]
        have hsz:((w.alloc o1).alloc o2).heap.size=w.heap.size+2:=by simp
        obtain⟨W2,hW2⟩:∃ W2,W2=(w.alloc o1).alloc o2:=⟨_,rfl⟩;have HW2:Hid (W2=(w.alloc (.cells #[.int .i64 k,.int .i64 n,.string X,.string Y,.slice A m c] 28)).alloc (.cells #[.int .i64 k,.int .i64 n,.string X2,.string Y2,.slice A' m c'] 28)):=Lib.hid (by rw[hW2,ho1,ho2]);rw[←hW2] at hbo hc5 hd5 hsz;have HBO:=Lib.hid hbo;have HC5:=Lib.hid hc5;have HD5:=Lib.hid hd5;clear ho1 ho2 hW2 hbo hc5 hd5;go_enter Tryd.func7,Tryd.ntmps7;go_wp2
        go_loopw [5] (fun i wr=>∃ j:Nat,j≤m∧i= .int .i64 j∧ks.take j=ks2.take j∧Below (w.heap.size+2) W2 wr) (fun i _=>m - (intOf i).toNat)
        case atStart=>exact⟨0,by omega,rfl,rfl,by rw[HW2.out];exact Below.refl _ _⟩
        case round=>
         obtain⟨j,hj,rfl,ht,hb1⟩:=hrel;have hb:Below w.heap.size w wr:=HBO.out.trans (hb1.mono (by omega));have c5:wr.cell? ⟨w.heap.size,4,none⟩=some (.slice A m c):=(hb1.cell (p:=⟨w.heap.size,4,none⟩) (by show w.heap.size<w.heap.size+2;omega)).trans HC5.out;have d5:wr.cell? ⟨w.heap.size+1,4,none⟩=some (.slice A' m c'):=(hb1.cell (p:=⟨w.heap.size+1,4,none⟩) (by show w.heap.size+1<w.heap.size+2;omega)).trans HD5.out;have HB1:=Lib.hid hb1;have HT:=Lib.hid ht;clear ht hb1;by_cases a:j<m
         ·obtain⟨r,hr⟩:=getX_of_lt HM.out a
          obtain⟨r',hr'⟩:=getX_of_lt HM'.out a;obtain⟨ad,B,b,rfl,hp,h9,hkr⟩:=kidX_at HK.out hb hr;obtain⟨ad',B',b',rfl,hp',h9',hkr'⟩:=kidX_at HK'.out hb hr';have hmem:=List.mem_of_getElem? hr;have hsz1:=sizeXL_mem hmem;have hsz2:=sizeXL_mem (List.mem_of_getElem? hr')
          have K:∀ x:Bw wr,Calls Tryd.prog 7 #[valX r B b,valX r' B' b'] x.at fun e w'=>e= .returned (.bool (eqB r r'))∧Below x.at.heap.size x.at w':=fun x=>
           HI.out r hmem r' B B' b b' x.at (hkr.next (hb.trans (x.2.mono hb.size))) (hkr'.next (hb.trans (x.2.mono hb.size))) (by have:=HS.out;omega) (by have:=HS'.out;omega)
          obtain⟨v2,hv2⟩:∃ v2,v2=eqB r r':=⟨_,rfl⟩;rw[←hv2] at K;have HV2:=Lib.hid hv2;have HR:=Lib.hid hr;have HR':=Lib.hid hr';have q9:=h9.later;have q9':=h9'.later;have e5:=bw_cell c5;have f5:=bw_cell d5;clear hr hr' hv2 hkr hkr' hmem hsz1 hsz2 h9 h9';obtain⟨k',n',nm',op',ks1⟩:=r;obtain⟨k3,n3,nm3,op3,ks3⟩:=r';simp only[valX] at K;obtain⟨c0,c1,c2,c3,c4⟩:=q9;obtain⟨d0,d1,d2,d3,d4⟩:=q9';obtain⟨M1,hM1⟩:∃ M:ByteArray,M=⟨nm'.toArray⟩:=⟨_,rfl⟩;obtain⟨M2,hM2⟩:∃ M:ByteArray,M=⟨op'.toArray⟩:=⟨_,rfl⟩;obtain⟨M3,hM3⟩:∃ M:ByteArray,M=⟨nm3.toArray⟩:=⟨_,rfl⟩;obtain⟨M4,hM4⟩:∃ M:ByteArray,M=⟨op3.toArray⟩:=⟨_,rfl⟩;obtain⟨l1,hl1⟩:∃ l,l=ks1.length:=⟨_,rfl⟩;obtain⟨l2,hl2⟩:∃ l,l=ks3.length:=⟨_,rfl⟩;rw[←hM1,←hM2,←hM3,←hM4,←hl1,←hl2] at K;rw[←hM1] at c2;rw[←hM2] at c3;rw[←hl1] at c4;rw[←hM3] at d2;rw[←hM4] at d3;rw[←hl2] at d4;have HKC:=Lib.hid K;clear K hM1 hM2 hM3 hM4 hl1 hl2
          cases v2 with
          | true=>
            have HX:Hid (ks.take (j+1)=ks2.take (j+1)):=Lib.hid (by
             have:=eqB_of HV2.out.symm;rw[←this] at HR';exact take_eqX HT.out HR.out HR'.out)
            go_wp2;have hne:=bw_some wr;refine wp_region_below (by kernel_rfl) (by kernel_rfl) ?_
            repeat (go_big_quiet_step ((go_at_call 7;with_reducible exact bw_calls (HKC.out _))))
            refine wpQuiet_nil ?_;intro w3 hw3;obtain⟨m3,rfl⟩:=hw3;obtain⟨w4,hw4⟩:∃ x,x=m3.at:=⟨_,rfl⟩;have HB3:Hid (Below wr.heap.size wr w4):=Lib.hid (by rw[hw4];exact m3.2);rw[←hw4];clear hw4;go_wp2
            go_roundw
            case rel=>exact⟨j+1,by omega,by go_num,HX.out,HB1.out.trans (HB3.out.mono (by have:=HB1.out.size;omega))⟩
            case measure=>simp[intOf];omega
          | false=>
            have HX2:Hid (v=false):=Lib.hid (HX.out _ (eqB_no (not_eqX HR.out HR'.out (eqB_not HV2.out.symm))));go_wp2;have hne:=bw_some wr;refine wp_region_below (by kernel_rfl) (by kernel_rfl) ?_
            repeat (go_big_quiet_step ((go_at_call 7;with_reducible exact bw_calls (HKC.out _))))
            refine wpQuiet_nil ?_;intro w3 hw3;obtain⟨m3,rfl⟩:=hw3;obtain⟨w4,hw4⟩:∃ x,x=m3.at:=⟨_,rfl⟩;have HB3:Hid (Below wr.heap.size wr w4):=Lib.hid (by rw[hw4];exact m3.2);rw[←hw4];clear hw4;go_wp2;go_ret;exact⟨ret_bool HX2.out.symm,hb.trans (HB3.out.mono hb.size)⟩
         ·have HX2:Hid (v=true):=by
           apply Lib.hid;apply HX.out;have:=HT.out;rw[List.take_of_length_le (by have:=HM.out;omega),List.take_of_length_le (by have:=HM'.out;omega)] at this;exact eqB_yes this
          go_wp2;go_ret;exact⟨ret_bool HX2.out.symm,hb⟩
       ·have HX:Hid (v=false):=Lib.hid (by rw[HV.out];exact eqB_no (fun h=>f6 (by rw[HM.out,HM'.out];congr 1;injection h)))
        have g1:(k != k2)=false:=by simp[f1]
        have g2:(n != n2)=false:=by simp[f2]
        rw[eqB_yes f3] at gx;rw[eqB_yes f4] at gy;have g6:((m:Int) != (m2:Int))=true:=by simp;omega
        have g7:(m != m2)=true:=by simp[f6]
        subst f1 f2;clear f3 f4 f6;go_enter Tryd.func7,Tryd.ntmps7;go_wp2;go_ret;exact⟨ret_bool HX.out.symm,two_boxesX _ _ _⟩
      ·have HX:Hid (v=false):=Lib.hid (by rw[HV.out];exact eqB_no (fun h=>f4 (by injection h)))
       have g1:(k != k2)=false:=by simp[f1]
       have g2:(n != n2)=false:=by simp[f2]
       rw[eqB_yes f3] at gx;rw[eqB_no f4] at gy;subst f1 f2;clear f3 f4;go_enter Tryd.func7,Tryd.ntmps7;go_wp2;go_ret;exact⟨ret_bool HX.out.symm,two_boxesX _ _ _⟩
     ·have HX:Hid (v=false):=Lib.hid (by rw[HV.out];exact eqB_no (fun h=>f3 (by injection h)))
      have g1:(k != k2)=false:=by simp[f1]
      have g2:(n != n2)=false:=by simp[f2]
      rw[eqB_no f3] at gx;subst f1 f2;clear f3;go_enter Tryd.func7,Tryd.ntmps7;go_wp2;go_ret;exact⟨ret_bool HX.out.symm,two_boxesX _ _ _⟩
    ·have HX:Hid (v=false):=Lib.hid (by rw[HV.out];exact eqB_no (fun h=>f2 (by injection h)))
     have g1:(k != k2)=false:=by simp[f1]
     have g2:(n != n2)=true:=by simp[f2]
     subst f1;clear f2;go_enter Tryd.func7,Tryd.ntmps7;go_wp2;go_ret;exact⟨ret_bool HX.out.symm,two_boxesX _ _ _⟩
   ·have HX:Hid (v=false):=Lib.hid (by rw[HV.out];exact eqB_no (fun h=>f1 (by injection h)))
    have g1:(k != k2)=true:=by simp[f1]
    clear f1;go_enter Tryd.func7,Tryd.ntmps7;go_wp2;go_ret;exact⟨ret_bool HX.out.symm,two_boxesX _ _ _⟩
theorem isOp_eq (S:ByteArray) (c:Bs) (b:Bool) (h:decide (S.data.toList=c)=b):(S.toList==c)=b:=by
 rw[toList_data,←h,Bool.eq_iff_iff];simp
theorem nilB:(⟨([]:Bs).toArray⟩:ByteArray)=⟨#[]⟩:=rfl
def Md.sz:Md→Nat
 | .one=>0
 | .some _=>0
 | .loop _ x=>sizeX x
def Md.nz:Md→Nat
 | .one=>0
 | .some _=>0
 | .loop _ x=>nmX x
theorem size_num (n:Int):sizeX (exNum n)=1∧nmX (exNum n)=0:=by simp[exNum,sizeX,sizeXL,nmX,nmXL]
theorem size_var (w:Bs):sizeX (exVar w)=1∧nmX (exVar w)=w.length:=by simp[exVar,sizeX,sizeXL,nmX,nmXL]
theorem size_neg (x:Ex):sizeX (exNeg x)=1+sizeX x∧nmX (exNeg x)=nmX x:=by simp[exNeg,sizeX,sizeXL,nmX,nmXL]
theorem size_not (x:Ex):sizeX (exNot x)=1+sizeX x∧nmX (exNot x)=nmX x:=by simp[exNot,sizeX,sizeXL,nmX,nmXL]
theorem size_bin (op:Bs) (x y:Ex):sizeX (exBin op x y)=1+(sizeX x+sizeX y)∧nmX (exBin op x y)=nmX x+nmX y:=by simp[exBin,sizeX,sizeXL,nmX,nmXL]
theorem RdE.sized {l:List Tok} (hM:∀ t∈l,t.word.length≤200) {m:Md} {i d:Nat} {r:Rs} (h:RdE l m i d r):∀ y j,r= .ok y j→m.pos→i≤l.length→sizeX y+i≤m.sz+j∧nmX y+200 * i≤m.nz+200 * j:=by
 have lt:∀ {i w},sg l i=w→w≠[]→i<l.length:=fun h hw=>sg_lt (by rw[h];exact hw)
 induction h with
 | deep=>intro y j e;cases e
 | par h1 h2 h3 h4 ih=>
   intro y j e _ hi
   cases e
   have a1:=lt h1 (by decide);have:=ih _ _ rfl (Nat.le_refl 1) (by omega);simp only[Md.sz,Md.nz] at this ⊢;omega
 | parOpen=>intro y j e;cases e
 | parBad=>intro y j e;cases e
 | neg h1 h2 h3 ih=>
   intro y j e _ hi
   cases e
   have a1:=lt h1 (by decide);have:=ih _ _ rfl trivial (by omega);rw[(size_neg _).1,(size_neg _).2];simp only[Md.sz,Md.nz] at this ⊢;omega
 | not h1 h2 h3 ih=>
   intro y j e _ hi
   cases e
   have a1:=lt h1 (by decide);have:=ih _ _ rfl trivial (by omega);rw[(size_not _).1,(size_not _).2];simp only[Md.sz,Md.nz] at this ⊢;omega
 | unBad=>intro y j e;cases e
 | num h1 h2=>
   intro y j e _ hi
   cases e
   rw[(size_num _).1,(size_num _).2];simp only[Md.sz,Md.nz];omega
 | var h1 h2=>
   intro y j e _ hi
   cases e
   have:=hM _ (List.mem_of_getElem? h1);rw[(size_var _).1,(size_var _).2];simp only[Md.sz,Md.nz];omega
 | none=>intro y j e;cases e
 | some h1 h2 ih1 ih2=>
   intro y j e hp hi;have a:=ih1 _ _ rfl trivial hi;have b:=ih2 _ _ e hp (h1.within trivial hi).2;simp only[Md.sz,Md.nz] at a b ⊢;omega
 | someBad=>intro y j e;cases e
 | stop=>
   intro y j e _ _
   cases e
   simp only[Md.sz,Md.nz];omega
 | opDeep=>intro y j e;cases e
 | @op m x i d y k r h1 h2 h3 h4 ih3 ih4=>
   intro y' j e hp hi;have a1:=strong_sg_lt hp h1;have hpos:(Md.some (strong (sg l i)+1)).pos:=by show 1≤strong (sg l i)+1;omega
   have a:=ih3 _ _ rfl hpos (by omega);have b:=ih4 _ _ e hp (h3.within hpos (by omega)).2;simp only[Md.sz,Md.nz] at a b ⊢;rw[(size_bin _ _ _).1,(size_bin _ _ _).2] at b;omega
 | opBad=>intro y j e;cases e
theorem RdE.small {l:List Tok} (hM:∀ t∈l,t.word.length≤200) {m i d j:Nat} {y:Ex} (hm:1≤m) (hi:i≤l.length) (h:RdE l (.some m) i d (.ok y j)):sizeX y≤l.length∧nmX y≤200 * l.length:=by
 have a:=h.sized hM y j rfl hm hi;have b:=(h.within hm hi).2;simp only[Md.sz,Md.nz] at a;omega
end Go.Proofs.YthghbdeaenjckaaDoor
