import Derived.Test.YthghbdeaenjckaaGreatDoorTkN
import Derived.Deep.QuietTactic
import Derived.Deep.Slices
import Derived.RegionTactic
import Derived.BigQuiet
import Derived.Tactics2
import Derived.StillTactics
import Derived.Test.YthghbdeaenjckaaGreatDoorQBelow
import Derived.Test.YthghbdeaenjckaaGreatDoorName2
namespace Go.Proofs.YthghbdeaenjckaaGreatDoor
open Go Go.RowKit
set_option maxRecDepth 100000
set_option maxHeartbeats 4000000
inductive Ex where
 | mk (kind n:Int) (name op:Bs) (kids:List Ex):Ex
theorem Ex.ind {P:Ex→Prop} (h:∀ k n nm op ks,(∀ r∈ks,P r)→P (.mk k n nm op ks)):∀ r,P r:=by
 intro r;refine Ex.rec (motive_1:=P) (motive_2:=fun l=>∀ r∈l,P r) ?_ ?_ ?_ r
 ·intro k n nm op ks ih;exact h k n nm op ks ih
 ·intro r hr;cases hr
 ·intro a l ha hl r hr
  rcases List.mem_cons.1 hr with rfl | hr
  ·exact ha
  ·exact hl r hr
def Ex.kind:Ex→Int | .mk k _ _ _ _=>k
def Ex.n:Ex→Int | .mk _ n _ _ _=>n
def Ex.name:Ex→Bs | .mk _ _ nm _ _=>nm
def Ex.op:Ex→Bs | .mk _ _ _ op _=>op
def Ex.kids:Ex→List Ex | .mk _ _ _ _ ks=>ks
def exNone:Ex:= .mk 0 0 [] [] []
def exNum (n:Int):Ex:= .mk 0 n [] [] []
def exVar (w:Bs):Ex:= .mk 1 0 w [] []
def exNeg (x:Ex):Ex:= .mk 2 0 [] [] [x]
def exNot (x:Ex):Ex:= .mk 3 0 [] [] [x]
def exBin (op:Bs) (x y:Ex):Ex:= .mk 4 0 [] op [x,y]
def strong (op:Bs):Nat:=
 if op=[124,124] then 1 else if op=[38,38] then 2 else if op=[61,61]∨op=[33,61] then 3
 else if op=[60]∨op=[62]∨op=[60,61]∨op=[62,61] then 4 else if op=[43]∨op=[45] then 5
 else if op=[42]∨op=[47]∨op=[37] then 6 else 0
theorem strong_le (op:Bs):strong op≤6:=by unfold strong;repeat' split
                                          all_goals omega
theorem strong_nil:strong []=0:=by decide
def sg (l:List Tok) (i:Nat):Bs:=match l[i]? with
 | some t=>if t.kind=4 then t.word else []
 | none=>[]
inductive Rs where
 | ok (x:Ex) (at_:Nat):Rs
 | bad (at_:Nat) (e:Nat):Rs
inductive Md where
 | one:Md
 | some (least:Nat):Md
 | loop (least:Nat) (x:Ex):Md
def pre3 (w:Bs):Prop:=w=[45]∨w=[33]∨w=[40]
inductive RdE (l:List Tok):Md→Nat→Nat→Rs→Prop
 | deep {i d}:pre3 (sg l i)→64≤d→RdE l .one i d (.bad i 8)
 | par {i d x j}:sg l i=[40]→d<64→RdE l (.some 1) (i+1) (d+1) (.ok x j)→sg l j=[41]→RdE l .one i d (.ok x (j+1))
 | parOpen {i d x j}:sg l i=[40]→d<64→RdE l (.some 1) (i+1) (d+1) (.ok x j)→sg l j≠[41]→RdE l .one i d (.bad j 1)
 | parBad {i d j e}:sg l i=[40]→d<64→RdE l (.some 1) (i+1) (d+1) (.bad j e)→RdE l .one i d (.bad j e)
 | neg {i d x j}:sg l i=[45]→d<64→RdE l .one (i+1) (d+1) (.ok x j)→RdE l .one i d (.ok (exNeg x) j)
 | not {i d x j}:sg l i=[33]→d<64→RdE l .one (i+1) (d+1) (.ok x j)→RdE l .one i d (.ok (exNot x) j)
 | unBad {i d j e}:sg l i=[45]∨sg l i=[33]→d<64→RdE l .one (i+1) (d+1) (.bad j e)→RdE l .one i d (.bad j e)
 | num {i d t}:l[i]?=some t→t.kind=2→RdE l .one i d (.ok (exNum t.n) (i+1))
 | var {i d t}:l[i]?=some t→t.kind=6→RdE l .one i d (.ok (exVar t.word) (i+1))
 | none {i d}:¬ pre3 (sg l i)→(∀ t,l[i]?=some t→t.kind≠2∧t.kind≠6)→RdE l .one i d (.bad i 1)
 | some {m i d x j r}:RdE l .one i d (.ok x j)→RdE l (.loop m x) j d r→RdE l (.some m) i d r
 | someBad {m i d j e}:RdE l .one i d (.bad j e)→RdE l (.some m) i d (.bad j e)
 | stop {m x i d}:strong (sg l i)<m→RdE l (.loop m x) i d (.ok x i)
 | opDeep {m x i d}:m≤strong (sg l i)→64≤d→RdE l (.loop m x) i d (.bad i 8)
 | op {m x i d y k r}:m≤strong (sg l i)→d<64→RdE l (.some (strong (sg l i)+1)) (i+1) (d+1) (.ok y k)→RdE l (.loop m (exBin (sg l i) x y)) k d r→RdE l (.loop m x) i d r
 | opBad {m x i d j e}:m≤strong (sg l i)→d<64→RdE l (.some (strong (sg l i)+1)) (i+1) (d+1) (.bad j e)→RdE l (.loop m x) i d (.bad j e)
theorem sg_kind {l:List Tok} {i:Nat} {t:Tok} (h:l[i]?=some t) (hk:t.kind≠4):sg l i=[]:=by unfold sg;rw[h];exact if_neg hk
theorem sg_at {l:List Tok} {i:Nat} (h:sg l i≠[]):∃ t,l[i]?=some t∧t.kind=4∧sg l i=t.word:=by
 unfold sg at h ⊢
 cases ht:l[i]? with
 | none=>rw[ht] at h;exact absurd rfl h
 | some t=>
   rw[ht] at h;by_cases hk:t.kind=4
   ·exact⟨t,rfl,hk,if_pos hk⟩
   ·exact absurd (if_neg hk) h
theorem sg_lt {l:List Tok} {i:Nat} (h:sg l i≠[]):i<l.length:=by
 obtain⟨t,ht,_⟩:=sg_at h;exact(List.getElem?_eq_some_iff.1 ht).1
theorem sg_past {l:List Tok} {i:Nat} (h:¬ i<l.length):sg l i=[]:=by unfold sg;rw[List.getElem?_eq_none (by omega)]
theorem strong_sg_lt {l:List Tok} {i m:Nat} (hm:1≤m) (h:m≤strong (sg l i)):i<l.length:=sg_lt fun e=>by rw[e,strong_nil] at h;omega
theorem RdE.det {l:List Tok} {m:Md} {i d:Nat} {r:Rs} (h:RdE l m i d r):∀ {r'},RdE l m i d r'→r=r':=by
 have n40:([40]:Bs)≠[45]:=by decide
 have n33:([40]:Bs)≠[33]:=by decide
 have n45:([45]:Bs)≠[33]:=by decide
 induction h with
 | deep h1 h2=>
   intro r' h'
   cases h' with
   | deep=>rfl
   | par=>omega
   | parOpen=>omega
   | parBad=>omega
   | neg=>omega
   | not=>omega
   | unBad=>omega
   | num h3 h4=>rw[sg_kind h3 (by omega)] at h1;simp[pre3] at h1
   | var h3 h4=>rw[sg_kind h3 (by omega)] at h1;simp[pre3] at h1
   | none h3=>exact absurd h1 h3
 | par h1 h2 h3 h4 ih=>
   intro r' h'
   cases h' with
   | deep=>omega
   | par _ _ k3=>cases ih k3;rfl
   | parOpen _ _ k3 k4=>cases ih k3;exact absurd h4 k4
   | parBad _ _ k3=>cases ih k3
   | neg k1=>rw[h1] at k1;exact absurd k1 n40
   | not k1=>rw[h1] at k1;exact absurd k1 n33
   | unBad k1=>rw[h1] at k1;rcases k1 with k1 | k1 <;> simp at k1
   | num k3 k4=>rw[sg_kind k3 (by omega)] at h1;cases h1
   | var k3 k4=>rw[sg_kind k3 (by omega)] at h1;cases h1
   | none k3=>exact absurd (.inr (.inr h1)) k3
 | parOpen h1 h2 h3 h4 ih=>
   intro r' h'
   cases h' with
   | deep=>omega
   | par _ _ k3 k4=>cases ih k3;exact absurd k4 h4
   | parOpen _ _ k3 k4=>cases ih k3;rfl
   | parBad _ _ k3=>cases ih k3
   | neg k1=>rw[h1] at k1;exact absurd k1 n40
   | not k1=>rw[h1] at k1;exact absurd k1 n33
   | unBad k1=>rw[h1] at k1;rcases k1 with k1 | k1 <;> simp at k1
   | num k3 k4=>rw[sg_kind k3 (by omega)] at h1;cases h1
   | var k3 k4=>rw[sg_kind k3 (by omega)] at h1;cases h1
   | none k3=>exact absurd (.inr (.inr h1)) k3
 | parBad h1 h2 h3 ih=>
   intro r' h'
   cases h' with
   | deep=>omega
   | par _ _ k3 k4=>cases ih k3
   | parOpen _ _ k3 k4=>cases ih k3
   | parBad _ _ k3=>cases ih k3;rfl
   | neg k1=>rw[h1] at k1;exact absurd k1 n40
   | not k1=>rw[h1] at k1;exact absurd k1 n33
   | unBad k1=>rw[h1] at k1;rcases k1 with k1 | k1 <;> simp at k1
   | num k3 k4=>rw[sg_kind k3 (by omega)] at h1;cases h1
   | var k3 k4=>rw[sg_kind k3 (by omega)] at h1;cases h1
   | none k3=>exact absurd (.inr (.inr h1)) k3
 | neg h1 h2 h3 ih=>
   intro r' h'
   cases h' with
   | deep=>omega
   | par k1=>rw[h1] at k1;exact absurd k1.symm n40
   | parOpen k1=>rw[h1] at k1;exact absurd k1.symm n40
   | parBad k1=>rw[h1] at k1;exact absurd k1.symm n40
   | neg _ _ k3=>cases ih k3;rfl
   | not k1=>rw[h1] at k1;exact absurd k1 n45
   | unBad _ _ k3=>cases ih k3
   | num k3 k4=>rw[sg_kind k3 (by omega)] at h1;cases h1
   | var k3 k4=>rw[sg_kind k3 (by omega)] at h1;cases h1
   | none k3=>exact absurd (.inl h1) k3
 | not h1 h2 h3 ih=>
   intro r' h'
   cases h' with
   | deep=>omega
   | par k1=>rw[h1] at k1;exact absurd k1.symm n33
   | parOpen k1=>rw[h1] at k1;exact absurd k1.symm n33
   | parBad k1=>rw[h1] at k1;exact absurd k1.symm n33
   | neg k1=>rw[h1] at k1;exact absurd k1.symm n45
   | not _ _ k3=>cases ih k3;rfl
   | unBad _ _ k3=>cases ih k3
   | num k3 k4=>rw[sg_kind k3 (by omega)] at h1;cases h1
   | var k3 k4=>rw[sg_kind k3 (by omega)] at h1;cases h1
   | none k3=>exact absurd (.inr (.inl h1)) k3
 | unBad h1 h2 h3 ih=>
   intro r' h'
   cases h' with
   | deep=>omega
   | par k1=>rw[k1] at h1;rcases h1 with h1 | h1 <;> simp at h1
   | parOpen k1=>rw[k1] at h1;rcases h1 with h1 | h1 <;> simp at h1
   | parBad k1=>rw[k1] at h1;rcases h1 with h1 | h1 <;> simp at h1
   | neg _ _ k3=>cases ih k3
   | not _ _ k3=>cases ih k3
   | unBad _ _ k3=>cases ih k3;rfl
   | num k3 k4=>rw[sg_kind k3 (by omega)] at h1;rcases h1 with h1 | h1 <;> cases h1
   | var k3 k4=>rw[sg_kind k3 (by omega)] at h1;rcases h1 with h1 | h1 <;> cases h1
   | none k3=>exact absurd (by rcases h1 with h1 | h1;exact .inl h1;exact .inr (.inl h1)) k3
 | num h1 h2=>
   intro r' h';have h0:=sg_kind h1 (by omega)
   cases h' with
   | deep k1=>rw[h0] at k1;simp[pre3] at k1
   | par k1=>rw[h0] at k1;cases k1
   | parOpen k1=>rw[h0] at k1;cases k1
   | parBad k1=>rw[h0] at k1;cases k1
   | neg k1=>rw[h0] at k1;cases k1
   | not k1=>rw[h0] at k1;cases k1
   | unBad k1=>rw[h0] at k1;rcases k1 with k1 | k1 <;> cases k1
   | num k1 k2=>rw[h1] at k1;cases k1;rfl
   | var k1 k2=>rw[h1] at k1;cases k1;omega
   | none _ k2=>exact absurd h2 (k2 _ h1).1
 | var h1 h2=>
   intro r' h';have h0:=sg_kind h1 (by omega)
   cases h' with
   | deep k1=>rw[h0] at k1;simp[pre3] at k1
   | par k1=>rw[h0] at k1;cases k1
   | parOpen k1=>rw[h0] at k1;cases k1
   | parBad k1=>rw[h0] at k1;cases k1
   | neg k1=>rw[h0] at k1;cases k1
   | not k1=>rw[h0] at k1;cases k1
   | unBad k1=>rw[h0] at k1;rcases k1 with k1 | k1 <;> cases k1
   | num k1 k2=>rw[h1] at k1;cases k1;omega
   | var k1 k2=>rw[h1] at k1;cases k1;rfl
   | none _ k2=>exact absurd h2 (k2 _ h1).2
 | none h1 h2=>
   intro r' h'
   cases h' with
   | deep k1=>exact absurd k1 h1
   | par k1=>exact absurd (.inr (.inr k1)) h1
   | parOpen k1=>exact absurd (.inr (.inr k1)) h1
   | parBad k1=>exact absurd (.inr (.inr k1)) h1
   | neg k1=>exact absurd (.inl k1) h1
   | not k1=>exact absurd (.inr (.inl k1)) h1
   | unBad k1=>exact absurd (by rcases k1 with k1 | k1;exact .inl k1;exact .inr (.inl k1)) h1
   | num k1 k2=>exact absurd k2 (h2 _ k1).1
   | var k1 k2=>exact absurd k2 (h2 _ k1).2
   | none=>rfl
 | some h1 h2 ih1 ih2=>
   intro r' h'
   cases h' with
   | some k1 k2=>cases ih1 k1;exact ih2 k2
   | someBad k1=>cases ih1 k1
 | someBad h1 ih=>
   intro r' h'
   cases h' with
   | some k1=>cases ih k1
   | someBad k1=>cases ih k1;rfl
 | stop h1=>
   intro r' h'
   cases h' with
   | stop=>rfl
   | opDeep=>omega
   | op=>omega
   | opBad=>omega
 | opDeep h1 h2=>
   intro r' h'
   cases h' with
   | stop=>omega
   | opDeep=>rfl
   | op=>omega
   | opBad=>omega
 | op h1 h2 h3 h4 ih3 ih4=>
   intro r' h'
   cases h' with
   | stop=>omega
   | opDeep=>omega
   | op _ _ k3 k4=>cases ih3 k3;exact ih4 k4
   | opBad _ _ k3=>cases ih3 k3
 | opBad h1 h2 h3 ih=>
   intro r' h'
   cases h' with
   | stop=>omega
   | opDeep=>omega
   | op _ _ k3=>cases ih k3
   | opBad _ _ k3=>cases ih k3;rfl
def Md.pos:Md→Prop
 | .one=>True
 | .some m=>1≤m
 | .loop m _=>1≤m
def Rs.within (l:List Tok) (i:Nat):Rs→Prop
 | .ok _ j=>i≤j∧j≤l.length
 | .bad j e=>i≤j∧j≤l.length∧(e=1∨e=8)
theorem RdE.within {l:List Tok} {m:Md} {i d:Nat} {r:Rs} (h:RdE l m i d r):m.pos→i≤l.length→r.within l i:=by
 have lt:∀ {i w},sg l i=w→w≠[]→i<l.length:=fun h hw=>sg_lt (by rw[h];exact hw)
 induction h with
 | deep=>intro _ hi;exact⟨Nat.le_refl _,hi,.inr rfl⟩
 | par h1 h2 h3 h4 ih=>
   intro _ hi;have a1:=lt h1 (by decide);have a2:=lt h4 (by decide);obtain⟨b1,b2⟩:=ih (Nat.le_refl 1) (by omega);exact⟨by omega,by omega⟩
 | parOpen h1 h2 h3 h4 ih=>
   intro _ hi;have a1:=lt h1 (by decide);obtain⟨b1,b2⟩:=ih (Nat.le_refl 1) (by omega);exact⟨by omega,b2,.inl rfl⟩
 | parBad h1 h2 h3 ih=>
   intro _ hi;have a1:=lt h1 (by decide);obtain⟨b1,b2,b3⟩:=ih (Nat.le_refl 1) (by omega);exact⟨by omega,b2,b3⟩
 | neg h1 h2 h3 ih=>
   intro _ hi;have a1:=lt h1 (by decide);obtain⟨b1,b2⟩:=ih trivial (by omega);exact⟨by omega,b2⟩
 | not h1 h2 h3 ih=>
   intro _ hi;have a1:=lt h1 (by decide);obtain⟨b1,b2⟩:=ih trivial (by omega);exact⟨by omega,b2⟩
 | @unBad i d j e h1 h2 h3 ih=>
   intro _ hi;have a1:i<l.length:=by rcases h1 with h1 | h1 <;> exact lt h1 (by decide)
   obtain⟨b1,b2,b3⟩:=ih trivial (by omega);exact⟨by omega,b2,b3⟩
 | num h1=>intro _ hi;have:=(List.getElem?_eq_some_iff.1 h1).1;exact⟨by omega,by omega⟩
 | var h1=>intro _ hi;have:=(List.getElem?_eq_some_iff.1 h1).1;exact⟨by omega,by omega⟩
 | none=>intro _ hi;exact⟨Nat.le_refl _,hi,.inl rfl⟩
 | @some m i d x j r h1 h2 ih1 ih2=>
   intro hp hi;obtain⟨b1,b2⟩:=ih1 trivial hi;have:=ih2 hp b2
   cases r with
   | ok y k=>exact⟨by have:=this.1;omega,this.2⟩
   | bad k e=>exact⟨by have:=this.1;omega,this.2⟩
 | someBad h1 ih=>intro _ hi;exact ih trivial hi
 | stop=>intro _ hi;exact⟨Nat.le_refl _,hi⟩
 | opDeep=>intro _ hi;exact⟨Nat.le_refl _,hi,.inr rfl⟩
 | @op m x i d y k r h1 h2 h3 h4 ih3 ih4=>
   intro hp hi;have a1:=strong_sg_lt hp h1;obtain⟨b1,b2⟩:=ih3 (by show 1≤strong (sg l i)+1;omega) (by omega);have:=ih4 hp b2
   cases r with
   | ok y k=>exact⟨by have:=this.1;omega,this.2⟩
   | bad k e=>exact⟨by have:=this.1;omega,this.2⟩
 | @opBad m x i d j e h1 h2 h3 ih=>
   intro hp hi;have a1:=strong_sg_lt hp h1;obtain⟨b1,b2,b3⟩:=ih (by show 1≤strong (sg l i)+1;omega) (by omega);exact⟨by omega,b2,b3⟩
def tSign (w:Bs):Tok:=⟨4,w,0,[],0⟩
def tNum (n:Int):Tok:=⟨2,[],n,[],0⟩
def tVar (w:Bs):Tok:=⟨6,w,0,[],0⟩
def bindsX:Ex→Nat
 | .mk k _ _ op _=>if k=4 then strong op else if 2≤k then 7 else 8
def shutT (b m:Nat) (T:List Tok):List Tok:=if b<m then tSign [40]::(T++[tSign [41]]) else T
mutual
def tokP:Ex→List Tok
 | .mk k n nm op ks=>if k=0 then [tNum n] else if k=1 then [tVar nm] else if k=2 then tSign [45]::tokKs [] 7 ks else if k=3 then tSign [33]::tokKs [] 7 ks
   else if k=4 then tokKs [tSign op] (strong op) ks else []
def tokKs (sep:List Tok) (m:Nat):List Ex→List Tok
 | []=>[]
 | x::r=>shutT (bindsX x) m (tokP x)++(sep++tokKs [] (m+1) r)
end
def tokX (e:Ex) (m:Nat):List Tok:=shutT (bindsX e) m (tokP e)
theorem tok_num (n:Int):tokP (exNum n)=[tNum n]:=by simp[exNum,tokP]
theorem tok_var (w:Bs):tokP (exVar w)=[tVar w]:=by simp[exVar,tokP]
theorem tok_neg (x:Ex):tokP (exNeg x)=tSign [45]::tokX x 7:=by simp[exNeg,tokP,tokKs,tokX]
theorem tok_not (x:Ex):tokP (exNot x)=tSign [33]::tokX x 7:=by simp[exNot,tokP,tokKs,tokX]
theorem tok_bin (op:Bs) (x y:Ex):tokP (exBin op x y)=tokX x (strong op)++tSign op::tokX y (strong op+1):=by simp[exBin,tokP,tokKs,tokX]
def shapeX (k n:Int) (nm op:Bs) (c:Nat):Bool:=
 if k=0 then decide (0≤n) && nm.isEmpty && op.isEmpty && c==0
 else if k=1 then decide (n=0) && isName nm && op.isEmpty && c==0
 else if k=2∨k=3 then decide (n=0) && nm.isEmpty && op.isEmpty && c==1
 else if k=4 then decide (n=0) && nm.isEmpty && (strong op != 0) && c==2 else false
mutual
def mayX:Ex→Nat→Bool
 | .mk k n nm op ks,d=>shapeX k n nm op ks.length && (ks.isEmpty || decide (d<64)) && mayL ks (d+1)
def mayL:List Ex→Nat→Bool
 | [],_=>true
 | x::r,d=>mayX x d && mayL r d
end
theorem mayL_all:∀ {l:List Ex} {d:Nat},mayL l d=true→∀ x∈l,mayX x d=true
 | [],d,_,x,hx=>by cases hx
 | y::l,d,h,x,hx=>by
   rw[mayL,Bool.and_eq_true] at h
   rcases List.mem_cons.1 hx with rfl | hx
   ·exact h.1
   ·exact mayL_all h.2 x hx
theorem mayX_cases {e:Ex} {d:Nat} (h:mayX e d=true):(∃ n,e=exNum n∧0≤n)∨(∃ w,e=exVar w∧isName w=true)∨(∃ x,e=exNeg x∧d<64∧mayX x (d+1)=true)∨(∃ x,e=exNot x∧d<64∧mayX x (d+1)=true)∨
  ∃ op x y,e=exBin op x y∧1≤strong op∧d<64∧mayX x (d+1)=true∧mayX y (d+1)=true:=by
 obtain⟨k,n,nm,op,ks⟩:=e;rw[mayX,Bool.and_eq_true,Bool.and_eq_true] at h;obtain⟨⟨h1,h2⟩,h3⟩:=h;unfold shapeX at h1
 split at h1
 ·rename_i hk;subst hk
  simp at h1;obtain⟨⟨⟨a1,rfl⟩,rfl⟩,rfl⟩:=h1;exact .inl ⟨n,rfl,a1⟩
 split at h1
 ·rename_i hk;subst hk
  simp at h1;obtain⟨⟨⟨rfl,a2⟩,rfl⟩,rfl⟩:=h1;exact .inr (.inl ⟨nm,rfl,a2⟩)
 split at h1
 ·rename_i hk
  simp at h1;obtain⟨⟨⟨rfl,rfl⟩,rfl⟩,h4⟩:=h1;obtain⟨x,rfl⟩:=List.length_eq_one_iff.1 h4;have hd:d<64:=by simpa using h2
  have hx:=mayL_all h3 x (by simp)
  rcases hk with rfl | rfl
  ·exact .inr (.inr (.inl ⟨x,rfl,hd,hx⟩))
  ·exact .inr (.inr (.inr (.inl ⟨x,rfl,hd,hx⟩)))
 split at h1
 ·rename_i hk;subst hk
  simp at h1;obtain⟨⟨⟨rfl,rfl⟩,h5⟩,h4⟩:=h1
  obtain⟨x,y,rfl⟩:∃ x y,ks=[x,y]:=by
   match ks,h4 with
   | [x,y],_=>exact⟨x,y,rfl⟩
  have hd:d<64:=by simpa using h2
  exact .inr (.inr (.inr (.inr ⟨op,x,y,rfl,by omega,hd,mayL_all h3 x (by simp),mayL_all h3 y (by simp)⟩)))
 ·cases h1
def Has (l:List Tok) (i:Nat) (T:List Tok):Prop:=∃ p s,l=p++(T++s)∧p.length=i
theorem Has.app {l:List Tok} {i:Nat} {T U:List Tok} (h:Has l i (T++U)):Has l i T∧Has l (i+T.length) U:=by
 obtain⟨p,s,e,hp⟩:=h;exact⟨⟨p,U++s,by rw[e,List.append_assoc],hp⟩,⟨p++T,s,by rw[e];simp,by rw[List.length_append,hp]⟩⟩
theorem Has.head {l:List Tok} {i:Nat} {t:Tok} {T:List Tok} (h:Has l i (t::T)):l[i]?=some t∧Has l (i+1) T:=by
 obtain⟨p,s,e,hp⟩:=h;refine⟨?_,p++[t],s,by rw[e];simp,by simp[hp]⟩;rw[e,List.getElem?_append_right (by omega),hp,Nat.sub_self];rfl
theorem sg_sign {l:List Tok} {i:Nat} {w:Bs} (h:l[i]?=some (tSign w)):sg l i=w:=by unfold sg;rw[h];rfl
def Deep (l:List Tok) (m:Md) (i d:Nat):Prop:=∃ j,RdE l m i d (.bad j 8)
def GoodP (e:Ex):Prop:=∀ l i d,Has l i (tokP e)→
 (∀ m,1≤m→m≤bindsX e→strong (sg l (i+(tokP e).length))≤bindsX e→∀ r,RdE l (.loop m e) (i+(tokP e).length) d r→RdE l (.some m) i d r∨Deep l (.some m) i d)∧
 (7≤bindsX e→RdE l .one i d (.ok e (i+(tokP e).length))∨Deep l .one i d)
def Good (e:Ex):Prop:=∀ l i d m',Has l i (tokX e m')→
 (∀ m,1≤m→m≤m'→strong (sg l (i+(tokX e m').length))≤m'→∀ r,RdE l (.loop m e) (i+(tokX e m').length) d r→RdE l (.some m) i d r∨Deep l (.some m) i d)∧
 (7≤m'→RdE l .one i d (.ok e (i+(tokX e m').length))∨Deep l .one i d)
theorem good_shut {e:Ex} (h1:1≤bindsX e) (h:GoodP e):Good e:=by
 intro l i d m' hh;unfold tokX shutT at hh ⊢;by_cases hb:bindsX e<m'
 ·rw[if_pos hb] at hh ⊢
  obtain⟨k1,k2⟩:=hh.head;obtain⟨k3,k4⟩:=k2.app;obtain⟨k5,_⟩:=k4.head;have s1:=sg_sign k1;have s2:=sg_sign k5;have hlen:i+(tSign [40]::(tokP e++[tSign [41]])).length=i+1+(tokP e).length+1:=by simp;omega
  rw[hlen]
  have hone:RdE l .one i d (.ok e (i+1+(tokP e).length+1))∨Deep l .one i d:=by
   by_cases hd:d<64
   ·rcases(h l (i+1) (d+1) k3).1 1 (Nat.le_refl 1) h1 (by rw[s2,show strong [41]=0 by decide];omega) (.ok e (i+1+(tokP e).length)) (.stop (by rw[s2];decide)) with g | ⟨j,g⟩
    ·exact .inl (.par s1 hd g s2)
    ·exact .inr ⟨j,.parBad s1 hd g⟩
   ·exact .inr ⟨i,.deep (by rw[s1];exact .inr (.inr rfl)) (by omega)⟩
  refine⟨fun m _ _ _ r hr=>?_,fun _=>hone⟩
  rcases hone with g | ⟨j,g⟩
  ·exact .inl (.some g hr)
  ·exact .inr ⟨j,.someBad g⟩
 ·rw[if_neg hb] at hh ⊢
  obtain⟨g1,g2⟩:=h l i d hh;exact⟨fun m a1 a2 a3 r hr=>g1 m a1 (by omega) (by omega) r hr,fun a=>g2 (by omega)⟩
theorem good_of_one {e:Ex} (h:∀ l i d,Has l i (tokP e)→RdE l .one i d (.ok e (i+(tokP e).length))∨Deep l .one i d):GoodP e:=by
 intro l i d hh;have ho:=h l i d hh;refine⟨fun m _ _ _ r hr=>?_,fun _=>ho⟩
 rcases ho with g | ⟨j,g⟩
 ·exact .inl (.some g hr)
 ·exact .inr ⟨j,.someBad g⟩
theorem good_num (n:Int):GoodP (exNum n):=good_of_one fun l i d hh=>by
 rw[tok_num] at hh ⊢;exact .inl (.num (t:=tNum n) hh.head.1 rfl)
theorem good_var (w:Bs):GoodP (exVar w):=good_of_one fun l i d hh=>by
 rw[tok_var] at hh ⊢;exact .inl (.var (t:=tVar w) hh.head.1 rfl)
theorem good_neg {x:Ex} (hx:Good x):GoodP (exNeg x):=good_of_one fun l i d hh=>by
 rw[tok_neg] at hh ⊢;obtain⟨k1,k2⟩:=hh.head;have s1:=sg_sign k1;rw[List.length_cons,show i+((tokX x 7).length+1)=i+1+(tokX x 7).length by omega];by_cases hd:d<64
 ·rcases(hx l (i+1) (d+1) 7 k2).2 (Nat.le_refl 7) with g | ⟨j,g⟩
  ·exact .inl (.neg s1 hd g)
  ·exact .inr ⟨j,.unBad (.inl s1) hd g⟩
 ·exact .inr ⟨i,.deep (by rw[s1];exact .inl rfl) (by omega)⟩
theorem good_not {x:Ex} (hx:Good x):GoodP (exNot x):=good_of_one fun l i d hh=>by
 rw[tok_not] at hh ⊢;obtain⟨k1,k2⟩:=hh.head;have s1:=sg_sign k1;rw[List.length_cons,show i+((tokX x 7).length+1)=i+1+(tokX x 7).length by omega];by_cases hd:d<64
 ·rcases(hx l (i+1) (d+1) 7 k2).2 (Nat.le_refl 7) with g | ⟨j,g⟩
  ·exact .inl (.not s1 hd g)
  ·exact .inr ⟨j,.unBad (.inr s1) hd g⟩
 ·exact .inr ⟨i,.deep (by rw[s1];exact .inr (.inl rfl)) (by omega)⟩
theorem binds_bin (op:Bs) (x y:Ex):bindsX (exBin op x y)=strong op:=by simp[exBin,bindsX]
theorem good_bin {op:Bs} {x y:Ex} (hs:1≤strong op) (hx:Good x) (hy:Good y):GoodP (exBin op x y):=by
 intro l i d hh;have h6:=strong_le op;rw[binds_bin,tok_bin] at *;obtain⟨k1,k2⟩:=hh.app;obtain⟨k3,k4⟩:=k2.head;have s1:=sg_sign k3;rw[List.length_append,List.length_cons,show i+((tokX x (strong op)).length+((tokX y (strong op+1)).length+1))=i+(tokX x (strong op)).length+1+(tokX y (strong op+1)).length by omega];generalize hj:i+(tokX x (strong op)).length=j at *;refine⟨fun m a1 a2 a3 r hr=>?_,fun h=>by omega⟩;have HX:=(hx l i d (strong op) k1).1 m a1 a2 (by rw[hj,s1];exact Nat.le_refl _);rw[hj] at HX;by_cases hd:d<64
 ·rcases(hy l (j+1) (d+1) (strong op+1) k4).1 (strong op+1) (by omega) (Nat.le_refl _) (by omega) _ (.stop (by omega)) with g | ⟨q,g⟩
  ·exact HX r (.op (by rw[s1];exact a2) hd (by rw[s1];exact g) (by rw[s1];exact hr))
  ·rcases HX (.bad q 8) (.opBad (by rw[s1];exact a2) hd (by rw[s1];exact g)) with g | g
   ·exact .inr ⟨q,g⟩
   ·exact .inr g
 ·rcases HX (.bad j 8) (.opDeep (by rw[s1];exact a2) (by omega)) with g | g
  ·exact .inr ⟨j,g⟩
  ·exact .inr g
theorem good_all:∀ (e:Ex) (d:Nat),mayX e d=true→GoodP e∧1≤bindsX e:=by
 intro e
 induction e using Ex.ind with
 | h k n nm op ks ih=>
   intro d hm
   have hk:∀ x d',mayX x d'=true→x∈ks→Good x:=fun x d' hx hin=>by
    obtain⟨a,b⟩:=ih x hin d' hx;exact good_shut b a
   rcases mayX_cases hm with ⟨n',e,_⟩ | ⟨w,e,_⟩ | ⟨x,e,_,hx⟩ | ⟨x,e,_,hx⟩ | ⟨op',x,y,e,h1,_,hx,hy⟩
   ·rw[e];exact⟨good_num n',by simp[exNum,bindsX]⟩
   ·rw[e];exact⟨good_var w,by simp[exVar,bindsX]⟩
   ·have hin:x∈ks:=by simp only[exNeg,Ex.mk.injEq] at e;rw[e.2.2.2.2];simp
    rw[e];exact⟨good_neg (hk x _ hx hin),by simp[exNeg,bindsX]⟩
   ·have hin:x∈ks:=by simp only[exNot,Ex.mk.injEq] at e;rw[e.2.2.2.2];simp
    rw[e];exact⟨good_not (hk x _ hx hin),by simp[exNot,bindsX]⟩
   ·have hin:x∈ks∧y∈ks:=by simp only[exBin,Ex.mk.injEq] at e;rw[e.2.2.2.2];simp
    rw[e];exact⟨good_bin h1 (hk x _ hx hin.1) (hk y _ hy hin.2),by rw[binds_bin];exact h1⟩
theorem read_back {e:Ex} {d:Nat} (h:mayX e d=true) {r:Rs} (hr:RdE (tokP e) (.some 1) 0 0 r):r= .ok e (tokP e).length∨∃ j,r= .bad j 8:=by
 obtain⟨g,hb⟩:=good_all e d h;have hh:Has (tokP e) 0 (tokP e):=⟨[],[],by simp,rfl⟩;have hn:sg (tokP e) (0+(tokP e).length)=[]:=sg_past (by omega)
 rcases(g _ 0 0 hh).1 1 (Nat.le_refl 1) hb (by rw[hn,strong_nil];omega) _ (.stop (by rw[hn,strong_nil];omega)) with k | ⟨j,k⟩
 ·left;rw[hr.det k,Nat.zero_add]
 ·exact .inr ⟨j,hr.det k⟩
theorem blockX_add (a:Addr) (n:Nat):(a.add n).block=a.block:=by unfold Addr.add;split <;> rfl
def valX (r:Ex) (A:Option Addr) (c:Nat):Value:=match r with
 | .mk k n nm op ks=> .agg #[.int .i64 k,.int .i64 n,.string ⟨nm.toArray⟩,.string ⟨op.toArray⟩,.slice A ks.length c]
def AtX (w:World) (a:Addr) (r:Ex) (A:Option Addr) (c:Nat):Prop:=match r with
 | .mk k n nm op ks=>
   w.cell? a=some (.int .i64 k)∧w.cell? ⟨a.block,a.off+1,none⟩=some (.int .i64 n)∧w.cell? ⟨a.block,a.off+2,none⟩=some (.string ⟨nm.toArray⟩)∧
   w.cell? ⟨a.block,a.off+3,none⟩=some (.string ⟨op.toArray⟩)∧w.cell? ⟨a.block,a.off+4,none⟩=some (.slice A ks.length c)
mutual
def KidsX (P:Nat→Prop) (w:World) (A:Option Addr):Ex→Prop
 | .mk _ _ _ _ ks=>ks=[]∨∃ ad,A=some ad∧P ad.block∧KidsXL P w ad 0 ks
def KidsXL (P:Nat→Prop) (w:World) (ad:Addr) (i:Nat):List Ex→Prop
 | []=>True
 | r::rs=>(∃ A c,AtX w (ad.add (i * 5)) r A c∧KidsX P w A r)∧KidsXL P w ad (i+1) rs
end
theorem kidsXL_at {P:Nat→Prop} {w:World} {ad:Addr}:∀ {l:List Ex} {i k:Nat} {r:Ex},KidsXL P w ad i l→l[k]?=some r→∃ A c,AtX w (ad.add ((i+k) * 5)) r A c∧KidsX P w A r
 | [],i,k,r,_,hk=>by simp at hk
 | x::l,i,0,r,h,hk=>by
   injection hk with hk;subst hk
   rw[KidsXL] at h;exact h.1
 | x::l,i,k+1,r,h,hk=>by
   rw[KidsXL] at h;have:=kidsXL_at h.2 (k:=k) (r:=r) (by simpa using hk);rw[show i+(k+1)=i+1+k by omega];exact this
theorem AtX.keep {w w':World} {a:Addr} {r:Ex} {A:Option Addr} {c:Nat} (h:AtX w a r A c) (hb:∀ p:Addr,p.block=a.block→w'.cell? p=w.cell? p):AtX w' a r A c:=by
 obtain⟨k,n,nm,op,ks⟩:=r;obtain⟨a0,a1,a2,a3,a4⟩:=h;exact⟨(hb a rfl).trans a0,(hb ⟨a.block,a.off+1,none⟩ rfl).trans a1,(hb ⟨a.block,a.off+2,none⟩ rfl).trans a2,(hb ⟨a.block,a.off+3,none⟩ rfl).trans a3,(hb ⟨a.block,a.off+4,none⟩ rfl).trans a4⟩
theorem kidsXL_of {P Q:Nat→Prop} {w w':World} (ad:Addr) (hs:∀ p:Addr,P p.block→w'.cell? p=w.cell? p) (hp:P ad.block):∀ (l:List Ex) (i:Nat),(∀ r∈l,∀ A,KidsX P w A r→KidsX Q w' A r)→KidsXL P w ad i l→KidsXL Q w' ad i l
 | [],i,_,h=>by rw[KidsXL];trivial
 | r::l,i,ih,h=>by
   rw[KidsXL] at h ⊢;obtain⟨⟨A,c,h1,h2⟩,h3⟩:=h;exact⟨⟨A,c,h1.keep (fun p hpb=>hs p (by rw[hpb,blockX_add];exact hp)),ih r (by simp) A h2⟩,kidsXL_of ad hs hp l (i+1) (fun r hr=>ih r (by simp[hr])) h3⟩
theorem kidsX_of {P Q:Nat→Prop} {w w':World} (hs:∀ p:Addr,P p.block→w'.cell? p=w.cell? p) (hPQ:∀ k,P k→Q k):∀ (r:Ex) (A:Option Addr),KidsX P w A r→KidsX Q w' A r:=by
 intro r
 induction r using Ex.ind with
 | h k n nm op ks ih=>
   intro A h;rw[KidsX] at h ⊢
   rcases h with h | ⟨ad,rfl,hp,hl⟩
   ·exact .inl h
   ·exact .inr ⟨ad,rfl,hPQ _ hp,kidsXL_of ad hs hp ks 0 ih hl⟩
def LtX (B:Nat):Nat→Prop:=fun k=>k<B
theorem KidsX.next {w w':World} {A:Option Addr} {r:Ex} (h:KidsX (LtX w.heap.size) w A r) (hb:Below w.heap.size w w'):KidsX (LtX w'.heap.size) w' A r:=kidsX_of (fun _ h=>hb.cell h) (fun _ h=>Nat.lt_of_lt_of_le h hb.size) r A h
theorem kidX_at {w wr:World} {A:Option Addr} {r x:Ex} {j:Nat} (h:KidsX (LtX w.heap.size) w A r) (hb:Below w.heap.size w wr) (hx:r.kids[j]?=some x):
  ∃ ad A' c',A=some ad∧ad.block<w.heap.size∧AtX wr (ad.add (j * 5)) x A' c'∧KidsX (LtX w.heap.size) w A' x:=by
 obtain⟨k0,n,nm,op,ks⟩:=r;rw[KidsX] at h
 rcases h with h | ⟨ad,rfl,hp,hl⟩
 ·simp[Ex.kids,h] at hx
 ·obtain⟨A',c,h1,h2⟩:=kidsXL_at hl hx
  rw[Nat.zero_add] at h1;exact⟨ad,A',c,rfl,hp,h1.keep (fun p hpb=>hb.cell (by rw[hpb,blockX_add];exact hp)),h2⟩
theorem getX_of_lt {α:Type} {l:List α} {k n:Nat} (hn:n=l.length) (h:k<n):∃ p,l[k]?=some p:=⟨_,List.getElem?_eq_getElem (by omega)⟩
mutual
def sizeX:Ex→Nat
 | .mk _ _ _ _ ks=>1+sizeXL ks
def sizeXL:List Ex→Nat
 | []=>0
 | r::rs=>sizeX r+sizeXL rs
end
theorem sizeXL_mem {l:List Ex} {r:Ex} (h:r∈l):sizeX r≤sizeXL l:=by
 induction l with
 | nil=>cases h
 | cons x l ih=>
   rw[sizeXL]
   rcases List.mem_cons.1 h with rfl | h
   ·omega
   ·have:=ih h;omega
theorem sizeXL_len (l:List Ex):l.length≤sizeXL l:=by
 induction l with
 | nil=>simp[sizeXL]
 | cons x l ih=>rw[sizeXL,List.length_cons];cases x;rw[sizeX];omega
mutual
def cntX:Ex→Int→Int
 | .mk _ _ nm op ks,left=>if 60<nm.length∨60<op.length then -1 else cntXL ks (left - 1)
def cntXL:List Ex→Int→Int
 | [],left=>left
 | r::rs,left=>if left<0 then left else cntXL rs (cntX r left)
end
theorem cntXL_neg (l:List Ex) {z:Int} (h:z<0):cntXL l z=z:=by
 cases l with
 | nil=>rw[cntXL]
 | cons x l=>rw[cntXL,if_pos h]
theorem cntXL_snoc (x:Ex):∀ (l:List Ex) (z:Int),cntXL (l++[x]) z=if cntXL l z<0 then cntXL l z else cntX x (cntXL l z)
 | [],z=>by
   rw[List.nil_append,cntXL,cntXL,cntXL]
 | y::l,z=>by
   rw[List.cons_append,cntXL,cntXL];by_cases h:z<0
   ·rw[if_pos h,if_pos h,if_pos h]
   ·rw[if_neg h,if_neg h];exact cntXL_snoc x l _
theorem cntXL_ge (l:List Ex):(∀ x∈l,∀ z,0≤z→ -1≤cntX x z∧cntX x z≤z - 1)→∀ z, -1≤z→ -1≤cntXL l z∧cntXL l z≤z:=by
 induction l with
 | nil=>intro _ z hz;rw[cntXL];omega
 | cons x l ih=>
   intro h z hz;rw[cntXL]
   split
   ·omega
   ·have h1:=h x (by simp) z (by omega)
    have h2:=ih (fun y hy=>h y (by simp[hy])) (cntX x z) h1.1;omega
theorem cntX_ge (e:Ex):∀ z,0≤z→ -1≤cntX e z∧cntX e z≤z - 1:=by
 induction e using Ex.ind with
 | h k n nm op ks ih=>
   intro z hz;rw[cntX]
   split
   ·omega
   ·exact cntXL_ge ks ih (z - 1) (by omega)
theorem cntXL_take {l:List Ex} {k:Nat} {x:Ex} (h:l[k]?=some x) (z:Int):cntXL (l.take (k+1)) z=if cntXL (l.take k) z<0 then cntXL (l.take k) z else cntX x (cntXL (l.take k) z):=by
 obtain⟨hk,e⟩:=List.getElem?_eq_some_iff.1 h;rw[List.take_succ_eq_append_getElem hk,e,cntXL_snoc]
theorem cntXL_stop {l:List Ex} {z:Int} (k:Nat) (h:cntXL (l.take k) z<0):cntXL l z=cntXL (l.take k) z:=by
 have:∀ (a b:List Ex) (z:Int),cntXL a z<0→cntXL (a++b) z=cntXL a z:=by
  intro a b
  induction a with
  | nil=>intro z h;rw[cntXL] at h;rw[List.nil_append,cntXL_neg b h,cntXL]
  | cons x a ih=>
    intro z h;rw[cntXL] at h;rw[List.cons_append,cntXL,cntXL]
    split
    ·rfl
    ·rename_i hz
     rw[if_neg hz] at h;exact ih _ h
 rw[←this (l.take k) (l.drop k) z h,List.take_append_drop]
theorem cntXL_idx {l:List Ex} {z:Int} (hz: -1≤z):∀ k,k≤l.length→0≤cntXL (l.take k) z→(k:Int)≤z - cntXL (l.take k) z
 | 0,_,_=>by rw[List.take_zero,cntXL];omega
 | k+1,hk,h=>by
   have e:=cntXL_take (List.getElem?_eq_getElem (show k<l.length by omega)) z;obtain⟨y,hy⟩:∃ y,y=cntXL (l.take k) z:=⟨_,rfl⟩;have h2:=cntXL_idx (l:=l) hz k (by omega);rw[←hy] at e h2;rw[e] at h ⊢;by_cases hn:y<0
   ·rw[if_pos hn] at h;omega
   ·rw[if_neg hn] at h ⊢
    have h1:=cntX_ge l[k] y (by omega);have h3:=h2 (by omega);omega
mutual
def nmX:Ex→Nat
 | .mk _ _ nm _ ks=>nm.length+nmXL ks
def nmXL:List Ex→Nat
 | []=>0
 | r::rs=>nmX r+nmXL rs
end
theorem nmXL_mem {l:List Ex} {r:Ex} (h:r∈l):nmX r≤nmXL l:=by
 induction l with
 | nil=>cases h
 | cons x l ih=>
   rw[nmXL]
   rcases List.mem_cons.1 h with rfl | h
   ·omega
   ·have:=ih h;omega
theorem cntX_sz (e:Ex):∀ z:Int,0≤cntX e z→cntX e z+sizeX e≤z∧nmX e≤60 * sizeX e:=by
 induction e using Ex.ind with
 | h k n nm op ks ih=>
   have hl:∀ (l:List Ex),(∀ x∈l,∀ z:Int,0≤cntX x z→cntX x z+sizeX x≤z∧nmX x≤60 * sizeX x)→∀ z:Int,0≤cntXL l z→cntXL l z+sizeXL l≤z∧nmXL l≤60 * sizeXL l:=by
    intro l
    induction l with
    | nil=>intro _ z hz;rw[cntXL,sizeXL,nmXL];exact⟨by omega,by omega⟩
    | cons x l il=>
      intro h z hz;rw[cntXL] at hz ⊢
      split at hz
      ·omega
      ·rename_i h0
       rw[if_neg h0,sizeXL,nmXL];have h2:=il (fun y hy=>h y (by simp[hy])) _ hz
       have h3:0≤cntX x z:=by
        by_cases c:0≤cntX x z
        ·exact c
        ·rw[cntXL_neg l (by omega)] at hz;omega
       have h1:=h x (by simp) z h3;omega
   intro z hz;rw[cntX] at hz ⊢
   split at hz
   ·omega
   ·rename_i h0
    rw[if_neg h0,sizeX,nmX];have:=hl ks ih (z - 1) hz;omega
theorem countX_any (r:Ex):∀ (A:Option Addr) (c:Nat) (left:Nat) (w:World),KidsX (LtX w.heap.size) w A r→left≤120→
  Calls Tryz.prog 22 #[valX r A c,.int .i64 left] w fun e w'=>e= .returned (.int .i64 (cntX r left))∧Below w.heap.size w w':=by
 induction r using Ex.ind with
 | h k n nm op ks ih=>
   intro A c left w hk hleft;simp only[valX];obtain⟨G,hG⟩:∃ G:Int,G=cntX (.mk k n nm op ks) left:=⟨_,rfl⟩;rw[←hG];rw[cntX] at hG;obtain⟨m,hm⟩:∃ m,m=ks.length:=⟨_,rfl⟩;rw[←hm];obtain⟨N1,hN1⟩:∃ N1:ByteArray,N1=⟨nm.toArray⟩:=⟨_,rfl⟩;obtain⟨N2,hN2⟩:∃ N2:ByteArray,N2=⟨op.toArray⟩:=⟨_,rfl⟩;rw[←hN1,←hN2];have z1:N1.size=nm.length:=by rw[hN1];simp[ByteArray.size]
   have z2:N2.size=op.length:=by rw[hN2];simp[ByteArray.size]
   have HM:=Lib.hid hm;have HK:=Lib.hid hk;have HI:=Lib.hid ih;clear hk ih hm hN1 hN2;obtain⟨o,ho⟩:∃ o:Obj,o= .cells #[.int .i64 k,.int .i64 n,.string N1,.string N2,.slice A m c] 24:=⟨_,rfl⟩;have hbo:Below w.heap.size w (w.alloc o):=(Below.refl _ _).alloc (Nat.le_refl _) _;have hc4:(w.alloc o).cell? ⟨w.heap.size,4,none⟩=some (.slice A m c):=by rw[ho];simp[go_sem]
   rw[ho] at hbo hc4;clear ho;by_cases hn1:60<N1.size
   ·have HX:Hid (G= -1):=Lib.hid (by rw[hG,if_pos (.inl (by omega))])
    clear hG z1 z2;go_enter Tryz.func22,Tryz.ntmps22;go_wp2;go_ret;exact⟨ret_int HX.out.symm,hbo⟩
   by_cases hn2:60<N2.size
   ·have HX:Hid (G= -1):=Lib.hid (by rw[hG,if_pos (.inr (by omega))])
    clear hG z1 z2;go_enter Tryz.func22,Tryz.ntmps22;go_wp2;go_ret;exact⟨ret_int HX.out.symm,hbo⟩
   have HGG:Hid (G=cntXL ks ((left:Int) - 1)):=Lib.hid (by rw[hG,if_neg (by omega)]);clear hG z1 z2;go_enter Tryz.func22,Tryz.ntmps22;go_wp2
   go_loopw [1,21] (fun g i wr=>∃ j:Nat,j≤m∧j≤121∧i= .int .i64 j∧g= .int .i64 (cntXL (ks.take j) ((left:Int) - 1))∧Below (w.heap.size+1) (w.alloc (.cells #[.int .i64 k,.int .i64 n,.string N1,.string N2,.slice A m c] 24)) wr) (fun _ i _=>m - (intOf i).toNat)
   case atStart=>exact⟨0,by omega,by omega,rfl,by rw[List.take_zero,cntXL],Below.refl _ _⟩
   case round=>
    obtain⟨j,hj,hj2,rfl,rfl,hb1⟩:=hrel;have hb:Below w.heap.size w wr:=hbo.trans (hb1.mono (by omega));have c4:wr.cell? ⟨w.heap.size,4,none⟩=some (.slice A m c):=(hb1.cell (p:=⟨w.heap.size,4,none⟩) (by show w.heap.size<w.heap.size+1;omega)).trans hc4;have HB1:=Lib.hid hb1;clear hb1;obtain⟨z,hz⟩:∃ z:Int,z=cntXL (ks.take j) ((left:Int) - 1):=⟨_,rfl⟩;rw[←hz];have hzm: -1≤z:=by rw[hz];exact(cntXL_ge _ (fun x _=>cntX_ge x) _ (by omega)).1
    by_cases a:j<m
    ·obtain⟨r,hr⟩:=getX_of_lt HM.out a
     obtain⟨ad,A',c',rfl,hp,h5,hkr⟩:=kidX_at HK.out hb hr;have hmem:=List.mem_of_getElem? hr;have HX:=cntXL_take hr ((left:Int) - 1);have hidx:=cntXL_idx (l:=ks) (z:=(left:Int) - 1) (by omega) j (by have:=HM.out;omega);rw[←hz] at HX hidx;by_cases hneg:z<0
     ·have HX2:Hid (z=G):=Lib.hid (by
       rw[HGG.out,hz];exact(cntXL_stop j (by rw[←hz];exact hneg)).symm)
      clear hr hkr hmem h5 HX hidx hz;go_wp2;go_ret;exact⟨ret_int HX2.out,hb⟩
     ·obtain⟨zn,hzn⟩:∃ zn:Nat,z=zn:=⟨z.toNat,by omega⟩
      subst hzn;have hidx:=hidx (by omega);have hzb:zn≤120:=by omega
      have K:∀ w2,Below w.heap.size w w2→Calls Tryz.prog 22 #[valX r A' c',.int .i64 zn] w2 fun e w'=>e= .returned (.int .i64 (cntX r zn))∧Below w2.heap.size w2 w':=fun w2 h2=>
       HI.out r hmem A' c' zn w2 (hkr.next h2) hzb
      have hj3:j+1≤121:=by omega
      rw[if_neg hneg] at HX;obtain⟨y,hy⟩:∃ y:Int,y=cntX r zn:=⟨_,rfl⟩;rw[←hy] at K HX;have HX3:=Lib.hid HX;obtain⟨k',n',nm',op',ks'⟩:=r;simp only[valX] at K;obtain⟨d0,d1,d2,d3,d4⟩:=h5;generalize (⟨nm'.toArray⟩:ByteArray)=M1 at K d2;generalize (⟨op'.toArray⟩:ByteArray)=M2 at K d3;generalize ks'.length=m' at K d4;have HKC:=Lib.hid K;clear hr hkr hmem K HX hidx hz hy hzm;go_wp2_with (go_at_call 22;((with_reducible refine(HKC.out _ hb).mono ?_));rintro e w' ⟨rfl,hb2⟩)
      go_roundw
      case rel=>exact⟨j+1,by omega,hj3,by go_num,by rw[HX3.out],HB1.out.trans (hb2.mono (by simpa using HB1.out.size))⟩
      case measure=>simp[intOf];omega
    ·have HE:ks.take j=ks:=List.take_of_length_le (by have:=HM.out;omega)
     rw[HE] at hz;have HX2:Hid (z=G):=Lib.hid (by rw[HGG.out];exact hz);clear HE hz;go_wp2;go_ret;exact⟨ret_int HX2.out,hb⟩
theorem smallX_any (r:Ex) (A:Option Addr) (c:Nat) (most:Nat) (w:World) (hk:KidsX (LtX w.heap.size) w A r) (hm:most≤120):
  Calls Tryz.prog 7 #[valX r A c,.int .i64 most] w fun e w'=>e= .returned (.bool (decide (0≤cntX r most)))∧Below w.heap.size w w':=by
 have K:∀ w2,Below w.heap.size w w2→Calls Tryz.prog 22 #[valX r A c,.int .i64 most] w2 fun e w'=>e= .returned (.int .i64 (cntX r most))∧Below w2.heap.size w2 w':=fun w2 h2=>
  countX_any r A c most w2 (hk.next h2) hm
 obtain⟨z,hz⟩:∃ z:Int,z=cntX r most:=⟨_,rfl⟩;rw[←hz] at K ⊢;clear hz;obtain⟨k',n',nm',op',ks'⟩:=r;simp only[valX] at K ⊢;have HKC:=Lib.hid K;clear K hk;by_cases h0:0≤z
 ·go_enter Tryz.func7,Tryz.ntmps7
  go_wp2_with (go_at_call 22;((with_reducible refine(HKC.out _ ((Below.refl _ _).alloc (Nat.le_refl _) _)).mono ?_));rintro e w' ⟨rfl,hb2⟩);go_ret;exact⟨by simp[h0],((Below.refl _ _).alloc (Nat.le_refl _) _).trans (hb2.mono (by simp))⟩
 ·go_enter Tryz.func7,Tryz.ntmps7
  go_wp2_with (go_at_call 22;((with_reducible refine(HKC.out _ ((Below.refl _ _).alloc (Nat.le_refl _) _)).mono ?_));rintro e w' ⟨rfl,hb2⟩);go_ret;exact⟨by simp,((Below.refl _ _).alloc (Nat.le_refl _) _).trans (hb2.mono (by simp))⟩
noncomputable def eqB {α:Type} (a b:α):Bool:=@decide (a=b) (Classical.propDecidable _)
theorem eqB_no {α:Type} {a b:α} (h:a≠b):eqB a b=false:=@decide_eq_false _ (Classical.propDecidable _) h
theorem eqB_yes {α:Type} {a b:α} (h:a=b):eqB a b=true:=@decide_eq_true _ (Classical.propDecidable _) h
theorem eqB_of {α:Type} {a b:α} (h:eqB a b=true):a=b:=@of_decide_eq_true _ (Classical.propDecidable _) h
theorem eqB_not {α:Type} {a b:α} (h:eqB a b=false):a≠b:=fun e=>by rw[eqB_yes e] at h;cases h
theorem take_eqX {α:Type} {a b:List α} {k:Nat} {p:α} (h:a.take k=b.take k) (h1:a[k]?=some p) (h2:b[k]?=some p):a.take (k+1)=b.take (k+1):=by
 obtain⟨hk,e⟩:=List.getElem?_eq_some_iff.1 h1;obtain⟨hk',e'⟩:=List.getElem?_eq_some_iff.1 h2;rw[List.take_succ_eq_append_getElem hk,List.take_succ_eq_append_getElem hk',h,e,e']
theorem not_eqX {α:Type} {a b:List α} {k:Nat} {p q:α} (h1:a[k]?=some p) (h2:b[k]?=some q) (h:p≠q):a≠b:=by
 rintro rfl;rw[h1] at h2;injection h2 with h2;exact h h2
theorem nameX_eq {x y:Bs} {X Y:ByteArray} (hX:X=⟨x.toArray⟩) (hY:Y=⟨y.toArray⟩):(X.toList==Y.toList)=eqB x y:=by
 rw[toList_data,toList_data,hX,hY];by_cases h:x=y
 ·rw[eqB_yes h,h];simp
 ·rw[eqB_no h];simpa using h
def AtXB (w:World) (a:Addr) (r:Ex) (A:Option Addr) (c:Nat):Prop:=match r with
 | .mk k n nm op ks=>
   (∀ x:Bw w,x.at.cell? a=some (.int .i64 k))∧(∀ x:Bw w,x.at.cell? ⟨a.block,a.off+1,none⟩=some (.int .i64 n))∧(∀ x:Bw w,x.at.cell? ⟨a.block,a.off+2,none⟩=some (.string ⟨nm.toArray⟩))∧
   (∀ x:Bw w,x.at.cell? ⟨a.block,a.off+3,none⟩=some (.string ⟨op.toArray⟩))∧(∀ x:Bw w,x.at.cell? ⟨a.block,a.off+4,none⟩=some (.slice A ks.length c))
theorem AtX.later {w:World} {a:Addr} {r:Ex} {A:Option Addr} {c:Nat} (h:AtX w a r A c):AtXB w a r A c:=by
 obtain⟨k,n,nm,op,ks⟩:=r;obtain⟨a0,a1,a2,a3,a4⟩:=h;exact⟨bw_cell a0,bw_cell a1,bw_cell a2,bw_cell a3,bw_cell a4⟩
theorem two_boxesX (w:World) (o o':Obj):Below w.heap.size w ((w.alloc o).alloc o'):=((Below.refl _ _).alloc (Nat.le_refl _) _).alloc (by simp) _
def SameXC (f:Nat) (x:Ex):Prop:=∀ (y:Ex) (A A':Option Addr) (c c':Nat) (w:World),KidsX (LtX w.heap.size) w A x→KidsX (LtX w.heap.size) w A' y→sizeX x≤1000000→sizeX y≤1000000→
 Calls Tryz.prog f #[valX x A c,valX y A' c'] w fun e w'=>e= .returned (.bool (eqB x y))∧Below w.heap.size w w'
theorem rsameX_any (x:Ex):SameXC 17 x:=by
 induction x using Ex.ind with
 | h k n nm op ks ih=>
   intro y A A' c c' w hk hk' hs hs';obtain⟨k2,n2,nm2,op2,ks2⟩:=y;obtain⟨v,hv⟩:∃ v,v=eqB (Ex.mk k n nm op ks) (Ex.mk k2 n2 nm2 op2 ks2):=⟨_,rfl⟩;rw[←hv];rw[sizeX] at hs hs';have HV:=Lib.hid hv;simp only[valX];obtain⟨m,hm⟩:∃ m,m=ks.length:=⟨_,rfl⟩;obtain⟨m2,hm2⟩:∃ m,m=ks2.length:=⟨_,rfl⟩;have hmx:=sizeXL_len ks;have hm9:m≤1000000:=by omega
   obtain⟨X,hX⟩:∃ X:ByteArray,X=⟨nm.toArray⟩:=⟨_,rfl⟩;obtain⟨X2,hX2⟩:∃ X:ByteArray,X=⟨nm2.toArray⟩:=⟨_,rfl⟩;obtain⟨Y,hY⟩:∃ X:ByteArray,X=⟨op.toArray⟩:=⟨_,rfl⟩;obtain⟨Y2,hY2⟩:∃ X:ByteArray,X=⟨op2.toArray⟩:=⟨_,rfl⟩;have gx:=nameX_eq hX hX2;have gy:=nameX_eq hY hY2;rw[←hm,←hm2,←hX,←hX2,←hY,←hY2];have HK:=Lib.hid hk;have HK':=Lib.hid hk';have HI:=Lib.hid ih;have HS:=Lib.hid hs;have HS':=Lib.hid hs';have HM:=Lib.hid hm;have HM':=Lib.hid hm2;clear hv ih hk hk' hs hs' hX hX2 hY hY2 hm hm2 hmx;by_cases f1:k=k2
   ·by_cases f2:n=n2
    ·by_cases f3:nm=nm2
     ·by_cases f4:op=op2
      ·by_cases f6:m=m2
       ·have HX:Hid (∀ b,eqB ks ks2=b→v=b):=Lib.hid (by
         rintro b rfl;rw[HV.out];by_cases hkk:ks=ks2
         ·rw[eqB_yes hkk,eqB_yes (by rw[f1,f2,f3,f4,hkk])]
         ·rw[eqB_no hkk,eqB_no (fun h=>hkk (by injection h))])
        have g1:(k != k2)=false:=by simp[f1]
        have g2:(n != n2)=false:=by simp[f2]
        rw[eqB_yes f3] at gx;rw[eqB_yes f4] at gy;have g6:((m:Int) != (m2:Int))=false:=by simp[f6]
        have g7:(m != m2)=false:=by simp[f6]
        subst f1 f2 f6;clear f3 f4;obtain⟨o1,ho1⟩:∃ o:Obj,o= .cells #[.int .i64 k,.int .i64 n,.string X,.string Y,.slice A m c] 24:=⟨_,rfl⟩;obtain⟨o2,ho2⟩:∃ o:Obj,o= .cells #[.int .i64 k,.int .i64 n,.string X2,.string Y2,.slice A' m c'] 24:=⟨_,rfl⟩;have hbo:Below w.heap.size w ((w.alloc o1).alloc o2):=two_boxesX w o1 o2;have hc5:((w.alloc o1).alloc o2).cell? ⟨w.heap.size,4,none⟩=some (.slice A m c):=by rw[ho1];simp[go_sem]
        have hd5:((w.alloc o1).alloc o2).cell? ⟨w.heap.size+1,4,none⟩=some (.slice A' m c'):=by rw[ho2];simp[go_sem]
        have hsz:((w.alloc o1).alloc o2).heap.size=w.heap.size+2:=by simp
        obtain⟨W2,hW2⟩:∃ W2,W2=(w.alloc o1).alloc o2:=⟨_,rfl⟩;have HW2:Hid (W2=(w.alloc (.cells #[.int .i64 k,.int .i64 n,.string X,.string Y,.slice A m c] 24)).alloc (.cells #[.int .i64 k,.int .i64 n,.string X2,.string Y2,.slice A' m c'] 24)):=Lib.hid (by rw[hW2,ho1,ho2]);rw[←hW2] at hbo hc5 hd5 hsz;have HBO:=Lib.hid hbo;have HC5:=Lib.hid hc5;have HD5:=Lib.hid hd5;clear ho1 ho2 hW2 hbo hc5 hd5;go_enter Tryz.func17,Tryz.ntmps17;go_wp2
        go_loopw [5] (fun i wr=>∃ j:Nat,j≤m∧i= .int .i64 j∧ks.take j=ks2.take j∧Below (w.heap.size+2) W2 wr) (fun i _=>m - (intOf i).toNat)
        case atStart=>exact⟨0,by omega,rfl,rfl,by rw[HW2.out];exact Below.refl _ _⟩
        case round=>
         obtain⟨j,hj,rfl,ht,hb1⟩:=hrel;have hb:Below w.heap.size w wr:=HBO.out.trans (hb1.mono (by omega));have c5:wr.cell? ⟨w.heap.size,4,none⟩=some (.slice A m c):=(hb1.cell (p:=⟨w.heap.size,4,none⟩) (by show w.heap.size<w.heap.size+2;omega)).trans HC5.out;have d5:wr.cell? ⟨w.heap.size+1,4,none⟩=some (.slice A' m c'):=(hb1.cell (p:=⟨w.heap.size+1,4,none⟩) (by show w.heap.size+1<w.heap.size+2;omega)).trans HD5.out;have HB1:=Lib.hid hb1;have HT:=Lib.hid ht;clear ht hb1;by_cases a:j<m
         ·obtain⟨r,hr⟩:=getX_of_lt HM.out a
          obtain⟨r',hr'⟩:=getX_of_lt HM'.out a;obtain⟨ad,B,b,rfl,hp,h9,hkr⟩:=kidX_at HK.out hb hr;obtain⟨ad',B',b',rfl,hp',h9',hkr'⟩:=kidX_at HK'.out hb hr';have hmem:=List.mem_of_getElem? hr;have hsz1:=sizeXL_mem hmem;have hsz2:=sizeXL_mem (List.mem_of_getElem? hr')
          have K:∀ x:Bw wr,Calls Tryz.prog 17 #[valX r B b,valX r' B' b'] x.at fun e w'=>e= .returned (.bool (eqB r r'))∧Below x.at.heap.size x.at w':=fun x=>
           HI.out r hmem r' B B' b b' x.at (hkr.next (hb.trans (x.2.mono hb.size))) (hkr'.next (hb.trans (x.2.mono hb.size))) (by have:=HS.out;omega) (by have:=HS'.out;omega)
          obtain⟨v2,hv2⟩:∃ v2,v2=eqB r r':=⟨_,rfl⟩;rw[←hv2] at K;have HV2:=Lib.hid hv2;have HR:=Lib.hid hr;have HR':=Lib.hid hr';have q9:=h9.later;have q9':=h9'.later;have e5:=bw_cell c5;have f5:=bw_cell d5;clear hr hr' hv2 hkr hkr' hmem hsz1 hsz2 h9 h9';obtain⟨k',n',nm',op',ks1⟩:=r;obtain⟨k3,n3,nm3,op3,ks3⟩:=r';simp only[valX] at K;obtain⟨c0,c1,c2,c3,c4⟩:=q9;obtain⟨d0,d1,d2,d3,d4⟩:=q9';obtain⟨M1,hM1⟩:∃ M:ByteArray,M=⟨nm'.toArray⟩:=⟨_,rfl⟩;obtain⟨M2,hM2⟩:∃ M:ByteArray,M=⟨op'.toArray⟩:=⟨_,rfl⟩;obtain⟨M3,hM3⟩:∃ M:ByteArray,M=⟨nm3.toArray⟩:=⟨_,rfl⟩;obtain⟨M4,hM4⟩:∃ M:ByteArray,M=⟨op3.toArray⟩:=⟨_,rfl⟩;obtain⟨l1,hl1⟩:∃ l,l=ks1.length:=⟨_,rfl⟩;obtain⟨l2,hl2⟩:∃ l,l=ks3.length:=⟨_,rfl⟩;rw[←hM1,←hM2,←hM3,←hM4,←hl1,←hl2] at K;rw[←hM1] at c2;rw[←hM2] at c3;rw[←hl1] at c4;rw[←hM3] at d2;rw[←hM4] at d3;rw[←hl2] at d4;have HKC:=Lib.hid K;clear K hM1 hM2 hM3 hM4 hl1 hl2
          cases v2 with
          | true=>
            have HX:Hid (ks.take (j+1)=ks2.take (j+1)):=Lib.hid (by
             have:=eqB_of HV2.out.symm;rw[←this] at HR';exact take_eqX HT.out HR.out HR'.out)
            go_wp2;have hne:=bw_some wr;refine wp_region_below (by kernel_rfl) (by kernel_rfl) ?_
            repeat (go_big_quiet_step ((go_at_call 17;with_reducible exact bw_calls (HKC.out _))))
            refine wpQuiet_nil ?_;intro w3 hw3;obtain⟨m3,rfl⟩:=hw3;obtain⟨w4,hw4⟩:∃ x,x=m3.at:=⟨_,rfl⟩;have HB3:Hid (Below wr.heap.size wr w4):=Lib.hid (by rw[hw4];exact m3.2);rw[←hw4];clear hw4;go_wp2
            go_roundw
            case rel=>exact⟨j+1,by omega,by go_num,HX.out,HB1.out.trans (HB3.out.mono (by have:=HB1.out.size;omega))⟩
            case measure=>simp[intOf];omega
          | false=>
            have HX2:Hid (v=false):=Lib.hid (HX.out _ (eqB_no (not_eqX HR.out HR'.out (eqB_not HV2.out.symm))));go_wp2;have hne:=bw_some wr;refine wp_region_below (by kernel_rfl) (by kernel_rfl) ?_
            repeat (go_big_quiet_step ((go_at_call 17;with_reducible exact bw_calls (HKC.out _))))
            refine wpQuiet_nil ?_;intro w3 hw3;obtain⟨m3,rfl⟩:=hw3;obtain⟨w4,hw4⟩:∃ x,x=m3.at:=⟨_,rfl⟩;have HB3:Hid (Below wr.heap.size wr w4):=Lib.hid (by rw[hw4];exact m3.2);rw[←hw4];clear hw4;go_wp2;go_ret;exact⟨ret_bool HX2.out.symm,hb.trans (HB3.out.mono hb.size)⟩
         ·have HX2:Hid (v=true):=by
           apply Lib.hid;apply HX.out;have:=HT.out;rw[List.take_of_length_le (by have:=HM.out;omega),List.take_of_length_le (by have:=HM'.out;omega)] at this;exact eqB_yes this
          go_wp2;go_ret;exact⟨ret_bool HX2.out.symm,hb⟩
       ·have HX:Hid (v=false):=Lib.hid (by rw[HV.out];exact eqB_no (fun h=>f6 (by rw[HM.out,HM'.out];congr 1;injection h)))
        have g1:(k != k2)=false:=by simp[f1]
        have g2:(n != n2)=false:=by simp[f2]
        rw[eqB_yes f3] at gx;rw[eqB_yes f4] at gy;have g6:((m:Int) != (m2:Int))=true:=by simp;omega
        have g7:(m != m2)=true:=by simp[f6]
        subst f1 f2;clear f3 f4 f6;go_enter Tryz.func17,Tryz.ntmps17;go_wp2;go_ret;exact⟨ret_bool HX.out.symm,two_boxesX _ _ _⟩
      ·have HX:Hid (v=false):=Lib.hid (by rw[HV.out];exact eqB_no (fun h=>f4 (by injection h)))
       have g1:(k != k2)=false:=by simp[f1]
       have g2:(n != n2)=false:=by simp[f2]
       rw[eqB_yes f3] at gx;rw[eqB_no f4] at gy;subst f1 f2;clear f3 f4;go_enter Tryz.func17,Tryz.ntmps17;go_wp2;go_ret;exact⟨ret_bool HX.out.symm,two_boxesX _ _ _⟩
     ·have HX:Hid (v=false):=Lib.hid (by rw[HV.out];exact eqB_no (fun h=>f3 (by injection h)))
      have g1:(k != k2)=false:=by simp[f1]
      have g2:(n != n2)=false:=by simp[f2]
      rw[eqB_no f3] at gx;subst f1 f2;clear f3;go_enter Tryz.func17,Tryz.ntmps17;go_wp2;go_ret;exact⟨ret_bool HX.out.symm,two_boxesX _ _ _⟩
    ·have HX:Hid (v=false):=Lib.hid (by rw[HV.out];exact eqB_no (fun h=>f2 (by injection h)))
     have g1:(k != k2)=false:=by simp[f1]
     have g2:(n != n2)=true:=by simp[f2]
     subst f1;clear f2;go_enter Tryz.func17,Tryz.ntmps17;go_wp2;go_ret;exact⟨ret_bool HX.out.symm,two_boxesX _ _ _⟩
   ·have HX:Hid (v=false):=Lib.hid (by rw[HV.out];exact eqB_no (fun h=>f1 (by injection h)))
    have g1:(k != k2)=true:=by simp[f1]
    clear f1;go_enter Tryz.func17,Tryz.ntmps17;go_wp2;go_ret;exact⟨ret_bool HX.out.symm,two_boxesX _ _ _⟩
theorem isOp_eq (S:ByteArray) (c:Bs) (b:Bool) (h:decide (S.data.toList=c)=b):(S.toList==c)=b:=by
 rw[toList_data,←h,Bool.eq_iff_iff];simp
theorem strengthX_any (S:ByteArray) (w:World):Calls Tryz.prog 26 #[.string S] w fun e w'=>e= .returned (.int .i64 (strong S.data.toList))∧w=w':=by
 obtain⟨v,hv⟩:∃ v:Int,v=strong S.data.toList:=⟨_,rfl⟩;rw[←hv];by_cases h0:S.data.toList=[124,124]
 ·have b0:=isOp_eq S _ _ (decide_eq_true h0)
  have HX:Hid (v=1):=Lib.hid (by rw[hv,h0];decide);clear hv h0;go_enter Tryz.func26,Tryz.ntmps26;go_wp2;go_ret;exact⟨ret_int HX.out.symm,rfl⟩
 have b0:=isOp_eq S _ _ (decide_eq_false h0);by_cases h1:S.data.toList=[38,38]
 ·have b1:=isOp_eq S _ _ (decide_eq_true h1)
  have HX:Hid (v=2):=Lib.hid (by rw[hv,h1];decide);clear hv h0 h1;go_enter Tryz.func26,Tryz.ntmps26;go_wp2;go_ret;exact⟨ret_int HX.out.symm,rfl⟩
 have b1:=isOp_eq S _ _ (decide_eq_false h1);by_cases h2:S.data.toList=[61,61]
 ·have b2:=isOp_eq S _ _ (decide_eq_true h2)
  have HX:Hid (v=3):=Lib.hid (by rw[hv,h2];decide);clear hv h0 h1 h2;go_enter Tryz.func26,Tryz.ntmps26;go_wp2;go_ret;exact⟨ret_int HX.out.symm,rfl⟩
 have b2:=isOp_eq S _ _ (decide_eq_false h2);by_cases h3:S.data.toList=[33,61]
 ·have b3:=isOp_eq S _ _ (decide_eq_true h3)
  have HX:Hid (v=3):=Lib.hid (by rw[hv,h3];decide);clear hv h0 h1 h2 h3;go_enter Tryz.func26,Tryz.ntmps26;go_wp2;go_ret;exact⟨ret_int HX.out.symm,rfl⟩
 have b3:=isOp_eq S _ _ (decide_eq_false h3);by_cases h4:S.data.toList=[60]
 ·have b4:=isOp_eq S _ _ (decide_eq_true h4)
  have HX:Hid (v=4):=Lib.hid (by rw[hv,h4];decide);clear hv h0 h1 h2 h3 h4;go_enter Tryz.func26,Tryz.ntmps26;go_wp2;go_ret;exact⟨ret_int HX.out.symm,rfl⟩
 have b4:=isOp_eq S _ _ (decide_eq_false h4);by_cases h5:S.data.toList=[62]
 ·have b5:=isOp_eq S _ _ (decide_eq_true h5)
  have HX:Hid (v=4):=Lib.hid (by rw[hv,h5];decide);clear hv h0 h1 h2 h3 h4 h5;go_enter Tryz.func26,Tryz.ntmps26;go_wp2;go_ret;exact⟨ret_int HX.out.symm,rfl⟩
 have b5:=isOp_eq S _ _ (decide_eq_false h5);by_cases h6:S.data.toList=[60,61]
 ·have b6:=isOp_eq S _ _ (decide_eq_true h6)
  have HX:Hid (v=4):=Lib.hid (by rw[hv,h6];decide);clear hv h0 h1 h2 h3 h4 h5 h6;go_enter Tryz.func26,Tryz.ntmps26;go_wp2;go_ret;exact⟨ret_int HX.out.symm,rfl⟩
 have b6:=isOp_eq S _ _ (decide_eq_false h6);by_cases h7:S.data.toList=[62,61]
 ·have b7:=isOp_eq S _ _ (decide_eq_true h7)
  have HX:Hid (v=4):=Lib.hid (by rw[hv,h7];decide);clear hv h0 h1 h2 h3 h4 h5 h6 h7;go_enter Tryz.func26,Tryz.ntmps26;go_wp2;go_ret;exact⟨ret_int HX.out.symm,rfl⟩
 have b7:=isOp_eq S _ _ (decide_eq_false h7);by_cases h8:S.data.toList=[43]
 ·have b8:=isOp_eq S _ _ (decide_eq_true h8)
  have HX:Hid (v=5):=Lib.hid (by rw[hv,h8];decide);clear hv h0 h1 h2 h3 h4 h5 h6 h7 h8;go_enter Tryz.func26,Tryz.ntmps26;go_wp2;go_ret;exact⟨ret_int HX.out.symm,rfl⟩
 have b8:=isOp_eq S _ _ (decide_eq_false h8);by_cases h9:S.data.toList=[45]
 ·have b9:=isOp_eq S _ _ (decide_eq_true h9)
  have HX:Hid (v=5):=Lib.hid (by rw[hv,h9];decide);clear hv h0 h1 h2 h3 h4 h5 h6 h7 h8 h9;go_enter Tryz.func26,Tryz.ntmps26;go_wp2;go_ret;exact⟨ret_int HX.out.symm,rfl⟩
 have b9:=isOp_eq S _ _ (decide_eq_false h9);by_cases h10:S.data.toList=[42]
 ·have b10:=isOp_eq S _ _ (decide_eq_true h10)
  have HX:Hid (v=6):=Lib.hid (by rw[hv,h10];decide);clear hv h0 h1 h2 h3 h4 h5 h6 h7 h8 h9 h10;go_enter Tryz.func26,Tryz.ntmps26;go_wp2;go_ret;exact⟨ret_int HX.out.symm,rfl⟩
 have b10:=isOp_eq S _ _ (decide_eq_false h10);by_cases h11:S.data.toList=[47]
 ·have b11:=isOp_eq S _ _ (decide_eq_true h11)
  have HX:Hid (v=6):=Lib.hid (by rw[hv,h11];decide);clear hv h0 h1 h2 h3 h4 h5 h6 h7 h8 h9 h10 h11;go_enter Tryz.func26,Tryz.ntmps26;go_wp2;go_ret;exact⟨ret_int HX.out.symm,rfl⟩
 have b11:=isOp_eq S _ _ (decide_eq_false h11);by_cases h12:S.data.toList=[37]
 ·have b12:=isOp_eq S _ _ (decide_eq_true h12)
  have HX:Hid (v=6):=Lib.hid (by rw[hv,h12];decide);clear hv h0 h1 h2 h3 h4 h5 h6 h7 h8 h9 h10 h11 h12;go_enter Tryz.func26,Tryz.ntmps26;go_wp2;go_ret;exact⟨ret_int HX.out.symm,rfl⟩
 have b12:=isOp_eq S _ _ (decide_eq_false h12);have HX:Hid (v=0):=Lib.hid (by rw[hv];unfold strong;simp[h0,h1,h2,h3,h4,h5,h6,h7,h8,h9,h10,h11,h12]);clear hv h0 h1 h2 h3 h4 h5 h6 h7 h8 h9 h10 h11 h12;go_enter Tryz.func26,Tryz.ntmps26;go_wp2;go_ret;exact⟨ret_int HX.out.symm,rfl⟩
theorem bindsX_any (r:Ex) (A:Option Addr) (c:Nat) (w:World):Calls Tryz.prog 28 #[valX r A c] w fun e w'=>e= .returned (.int .i64 (bindsX r))∧Below w.heap.size w w':=by
 obtain⟨k,n,nm,op,ks⟩:=r;obtain⟨v,hv⟩:∃ v:Int,v=bindsX (Ex.mk k n nm op ks):=⟨_,rfl⟩;rw[←hv];rw[bindsX] at hv;simp only[valX];obtain⟨Y,hY⟩:∃ X:ByteArray,X=⟨op.toArray⟩:=⟨_,rfl⟩;have K:=fun w=>strengthX_any Y w
 have e:Y.data.toList=op:=by rw[hY]
 rw[e] at K;rw[←hY];generalize (⟨nm.toArray⟩:ByteArray)=X;generalize ks.length=m;have HK:=Lib.hid K;clear K e hY;by_cases h4:k=4
 ·have b4:(k==4)=true:=by simpa using h4
  have HX:Hid (v=strong op):=Lib.hid (by rw[hv,if_pos h4]);clear hv h4;go_enter Tryz.func28,Tryz.ntmps28;go_wp2_with (go_at_call 26;((with_reducible refine(HK.out _).mono ?_));rintro e w' ⟨rfl,rfl⟩);go_ret;exact⟨ret_int HX.out.symm,(Below.refl _ _).alloc (Nat.le_refl _) _⟩
 have b4:(k==4)=false:=by simpa using h4
 by_cases h2:2≤k
 ·have HX:Hid (v=7):=Lib.hid (by rw[hv,if_neg h4,if_pos h2];rfl)
  clear hv h4;go_enter Tryz.func28,Tryz.ntmps28;go_wp2;go_ret;exact⟨ret_int HX.out.symm,(Below.refl _ _).alloc (Nat.le_refl _) _⟩
 ·have HX:Hid (v=8):=Lib.hid (by rw[hv,if_neg h4,if_neg h2];rfl)
  clear hv h4;go_enter Tryz.func28,Tryz.ntmps28;go_wp2;go_ret;exact⟨ret_int HX.out.symm,(Below.refl _ _).alloc (Nat.le_refl _) _⟩
end Go.Proofs.YthghbdeaenjckaaGreatDoor
