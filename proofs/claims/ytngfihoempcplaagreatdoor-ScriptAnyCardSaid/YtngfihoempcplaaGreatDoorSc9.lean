import Derived.Test.YtngfihoempcplaaGreatDoorEx14
import Derived.Test.YtngfihoempcplaaGreatDoorCf
import Derived.Test.YtngfihoempcplaaGreatDoorNLaid
import Derived.Test.YtngfihoempcplaaGreatDoorPlainC
namespace Go.Proofs.YtngfihoempcplaaGreatDoor
open Go Go.RowKit
set_option maxRecDepth 100000
set_option maxHeartbeats 2000000
section
mutual
inductive Cm where
 | mk (kind:Int) (name:Bs) (n:Int) (parts:List Pt) (cond:Ex) (body els:List Cm) (rules:List Ru) (pl:Int):Cm
inductive Ru where
 | mk (kind peer pk:Int) (pt:Bs) (body:List Cm) (pl:Int):Ru
end
theorem Cm.ind2 {P:Cm→Prop} {Q:Ru→Prop} (h:∀ k nm n ps x b e u p,(∀ c∈b,P c)→(∀ c∈e,P c)→(∀ r∈u,Q r)→P (.mk k nm n ps x b e u p)) (h':∀ k q pk pt b p,(∀ c∈b,P c)→Q (.mk k q pk pt b p)):(∀ c,P c)∧∀ r,Q r:=by
 have hc:∀ (a:Cm) (l:List Cm),P a→(∀ c∈l,P c)→∀ c∈a::l,P c:=fun a l ha hl c hc=>by
  rcases List.mem_cons.1 hc with rfl | hc
  ·exact ha
  ·exact hl c hc
 have hr:∀ (a:Ru) (l:List Ru),Q a→(∀ c∈l,Q c)→∀ c∈a::l,Q c:=fun a l ha hl c hc=>by
  rcases List.mem_cons.1 hc with rfl | hc
  ·exact ha
  ·exact hl c hc
 refine⟨fun c=>?_,fun r=>?_⟩
 ·exact Cm.rec (motive_1:=P) (motive_2:=Q) (motive_3:=fun l=>∀ c∈l,P c) (motive_4:=fun l=>∀ r∈l,Q r)
   (fun k nm n ps x b e u p hb he hu=>h k nm n ps x b e u p hb he hu) (fun k q pk pt b p hb=>h' k q pk pt b p hb) (fun c hc=>by cases hc) (fun a l ha hl=>hc a l ha hl) (fun c hc=>by cases hc) (fun a l ha hl=>hr a l ha hl) c
 ·exact Ru.rec (motive_1:=P) (motive_2:=Q) (motive_3:=fun l=>∀ c∈l,P c) (motive_4:=fun l=>∀ r∈l,Q r)
   (fun k nm n ps x b e u p hb he hu=>h k nm n ps x b e u p hb he hu) (fun k q pk pt b p hb=>h' k q pk pt b p hb) (fun c hc=>by cases hc) (fun a l ha hl=>hc a l ha hl) (fun c hc=>by cases hc) (fun a l ha hl=>hr a l ha hl) r
def Cm.kind:Cm→Int | .mk k _ _ _ _ _ _ _ _=>k
def Cm.name:Cm→Bs | .mk _ nm _ _ _ _ _ _ _=>nm
def Cm.n:Cm→Int | .mk _ _ n _ _ _ _ _ _=>n
def Cm.parts:Cm→List Pt | .mk _ _ _ ps _ _ _ _ _=>ps
def Cm.cond:Cm→Ex | .mk _ _ _ _ x _ _ _ _=>x
def Cm.body:Cm→List Cm | .mk _ _ _ _ _ b _ _ _=>b
def Cm.els:Cm→List Cm | .mk _ _ _ _ _ _ e _ _=>e
def Cm.rules:Cm→List Ru | .mk _ _ _ _ _ _ _ u _=>u
def Cm.pl:Cm→Int | .mk _ _ _ _ _ _ _ _ p=>p
def Ru.kind:Ru→Int | .mk k _ _ _ _ _=>k
def Ru.peer:Ru→Int | .mk _ q _ _ _ _=>q
def Ru.pk:Ru→Int | .mk _ _ pk _ _ _=>pk
def Ru.pt:Ru→Bs | .mk _ _ _ pt _ _=>pt
def Ru.body:Ru→List Cm | .mk _ _ _ _ b _=>b
def Ru.pl:Ru→Int | .mk _ _ _ _ _ p=>p
inductive Rz (α:Type) where
 | ok (x:α) (j:Nat):Rz α
 | bad (j:Nat) (deep:Bool):Rz α
def Rz.at {α:Type}:Rz α→Nat | .ok _ j=>j | .bad j _=>j
def Rz.err {α:Type}:Rz α→Nat | .ok _ _=>0 | .bad _ d=>if d then 8 else 1
def Rz.then {α β:Type}:Rz α→(α→Nat→Rz β)→Rz β | .ok x j,f=>f x j | .bad j d,_=> .bad j d
def gate {α:Type} (o k:Nat) (F:Nat→Rz α):Rz α:=if o=0 then F k else .bad k (o==8)
theorem z0f {α:Type} (k:Nat) (F:Nat→Rz α):gate 0 k F=F k:=rfl
theorem Rz.err_cases {α:Type} (R:Rz α):R.err=0∨R.err=1∨R.err=8:=by
 cases R with
 | ok x j=>exact .inl rfl
 | bad j d=>cases d <;> simp[Rz.err]
theorem z09 {α:Type} {o k:Nat} {F:Nat→Rz α} (ho:o=1∨o=8):(gate o k F).err=o∧(gate o k F).at=k:=by
 rcases ho with rfl | rfl <;> exact⟨rfl,rfl⟩
theorem z4w {α:Type} {o k:Nat} {F:Nat→Rz α} (ho:o≠0) {x:α} {j:Nat}:gate o k F≠ .ok x j:=by unfold gate;rw[if_neg ho];intro e;cases e
theorem Rz.then_assoc {α β γ:Type} (R:Rz α) (f:α→Nat→Rz β) (g:β→Nat→Rz γ):(R.then f).then g=R.then fun x j=>(f x j).then g:=by cases R <;> rfl
theorem Rz.then_ok {α β:Type} {R:Rz α} {f:α→Nat→Rz β} {y:β} {j:Nat} (h:R.then f= .ok y j):∃ x i,R= .ok x i∧f x i= .ok y j:=by
 cases R with
 | ok x i=>exact⟨x,i,rfl,h⟩
 | bad i d=>cases h
def Rz.within {α:Type} (i n:Nat):Rz α→Prop
 | .ok _ j=>i≤j∧j≤n
 | .bad j _=>j≤n
theorem z0z {α β:Type} {i n:Nat} {R:Rz α} {f:α→Nat→Rz β} (h:R.within i n) (hf:∀ x j,R= .ok x j→i≤j→j≤n→(f x j).within j n):(R.then f).within i n:=by
 cases R with
 | ok x j=>
   have:=hf x j rfl h.1 h.2;show (f x j).within i n
   revert this
   cases f x j with
   | ok y m=>exact fun q=>⟨Nat.le_trans h.1 q.1,q.2⟩
   | bad m d=>exact fun q=>q
 | bad j d=>exact h
theorem Rz.within.at_le {α:Type} {i n:Nat} {R:Rz α} (h:R.within i n):R.at≤n:=by
 cases R with
 | ok x j=>exact h.2
 | bad j d=>exact h
def tokZ:Tok:=⟨0,[],0,[],0⟩
def nxz (l:List Tok) (k:Nat):Tok:=l[k]?.getD tokZ
theorem z11 {l:List Tok} {k:Nat} {t:Tok} (h:l[k]?=some t):nxz l k=t:=by unfold nxz;rw[h];rfl
theorem z5z {l:List Tok} {k:Nat} (h:¬ k<l.length):nxz l k=tokZ:=by unfold nxz;rw[List.getElem?_eq_none (by omega)];rfl
theorem z17 {l:List Tok} {k:Nat} (h:(nxz l k).kind≠0):k<l.length:=by
 by_cases c:k<l.length
 ·exact c
 ·rw[z5z c] at h;exact absurd rfl h
def isT (l:List Tok) (kd:Int) (w:Bs) (k:Nat):Bool:=decide ((nxz l k).kind=kd∧(nxz l k).word=w)
theorem z1q {l:List Tok} {kd:Int} {w:Bs} {k:Nat} (h:isT l kd w k=true) (hk:kd≠0):k<l.length:=z17 (by have:=of_decide_eq_true h;rw[this.1];exact hk)
def wordsC:List Bs:=[[115,101,116],[108,101,116],[105,110,99,114],[105,102],[119,104,105,108,101],[112,114,111,99],[99,97,108,108],[115,112,97,119,110],[117,115,101],[115,101,110,100],[116,105,109,101,111,117,116],[101,120,112,101,99,116],
 [101,120,112,101,99,116,95,98,101,102,111,114,101],[101,120,112,101,99,116,95,97,102,116,101,114],[101,120,112,95,99,111,110,116,105,110,117,101],[101,120,105,116]]
def kindW (w:Bs):Nat:=if w∈wordsC then wordsC.idxOf w+1 else 0
theorem y5a (w:Bs):kindW w≤16:=by
 unfold kindW
 split
 ·rename_i h
  have:=List.idxOf_lt_length_of_mem h;have e:wordsC.length=16:=rfl;omega
 ·omega
variable (l:List Tok)
def needF (kd:Int) (w:Bs) (k:Nat):Rz Unit:=if isT l kd w k then .ok () (k+1) else .bad k false
def kindF (kd:Int) (k:Nat):Rz Tok:=if (nxz l k).kind=kd then .ok (nxz l k) (k+1) else .bad k false
def nameF (k:Nat):Rz Bs:=if (nxz l k).kind=1∧isName (nxz l k).word=true then .ok (nxz l k).word (k+1) else .bad k false
def numF (kind:Int) (k:Nat):Rz Int:=
 if kind=3∧isT l 4 [45] k=true then (kindF l 2 (k+1)).then fun t j=> .ok (-t.n) j
 else if kind=11∧isT l 1 [110,101,118,101,114] k=true then .ok (-1) (k+1)
 else (kindF l 2 k).then fun t j=> .ok t.n j
def textF (k:Nat):Rz (List Pt):=(kindF l 3 k).then fun t j=> .ok t.parts j
open Classical in
noncomputable def exR (k:Nat):Rs:=if h:∃ r,RdE l (.some 1) k 0 r then h.choose else .bad k 1
def exZ:Rs→Rz Ex | .ok x j=> .ok x j | .bad j e=> .bad j (e==8)
noncomputable def condF (k:Nat):Rz Ex:=(needF l 4 [40] k).then fun _ i=>(exZ (exR l i)).then fun x j=>(needF l 4 [41] j).then fun _ m=>if mayX x 0 then .ok x m else .bad k true
def braceF (d k:Nat):Rz Unit:=if d=16∧isT l 4 [123] k=true then .bad k true else needF l 4 [123] k
def blockF (rec:Nat→Nat→Rz (List Cm)) (d k:Nat):Rz (List Cm):=(braceF l d k).then fun _ i=>(rec (d+1) i).then fun x j=>(needF l 4 [125] j).then fun _ m=> .ok x m
def plainP (ps:List Pt):Option Bs:=match ps with
 | []=>some []
 | [p]=>if p.1=[] then some p.2 else none
 | _=>none
def plainF (k:Nat):Rz Bs:=if (nxz l k).kind=3 then (match plainP (nxz l k).parts with | some s=> .ok s (k+1) | none=> .bad k false) else .bad k false
def patF (k:Nat):Rz (Int × Bs):=
 if isT l 5 [101,120] k then (plainF l (k+1)).then fun s j=> .ok (0,s) j
 else if isT l 5 [103,108] k then (plainF l (k+1)).then fun s j=> .ok (1,s) j
 else if isT l 5 [114,101] k then (plainF l (k+1)).then fun s j=> .ok (2,s) j
 else .bad k false
def rwordF (told:Bool) (k:Nat):Rz Int:=
 if told=false∧isT l 1 [116,105,109,101,111,117,116] k=true then .ok 2 (k+1)
 else if isT l 1 [101,111,102] k then .ok 3 (k+1)
 else if told=false∧isT l 1 [100,101,102,97,117,108,116] k=true then .ok 4 (k+1)
 else .bad k false
def peerF (k:Nat):Rz Int:=if isT l 5 [105] k then (kindF l 2 (k+1)).then fun t j=> .ok t.n j else .ok (-1) k
def headF (told:Bool) (k:Nat):Rz (Int × Int × Bs):=if (nxz l k).kind=5 then (patF l k).then fun p j=> .ok (1,p.1,p.2) j else (rwordF l told k).then fun x j=> .ok (x,0,[]) j
def ruleF (blk:Nat→Nat→Rz (List Cm)) (d k:Nat):Rz Ru:=
 (peerF l k).then fun q i=>(headF l (isT l 5 [105] k) i).then fun h j=>(blk d j).then fun b m=> .ok (.mk h.1 q h.2.1 h.2.2 b (nxz l k).pl) m
def rulesL (blk:Nat→Nat→Rz (List Cm)) (d:Nat):Nat→Nat→Rz (List Ru)
 | 0,k=> .bad k false
 | N+1,k=>(ruleF l blk d k).then fun r i=>if isT l 4 [125] i then .ok [r] (i+1) else (rulesL blk d N i).then fun rs m=> .ok (r::rs) m
def rulesF (blk:Nat→Nat→Rz (List Cm)) (d k:Nat):Rz (List Ru):=(braceF l d k).then fun _ i=>rulesL l blk (d+1) (l.length+1) i
noncomputable def cmdF (blk:Nat→Nat→Rz (List Cm)) (d k:Nat):Rz Cm:=
 let p:=(nxz l k).pl
 match kindW (nxz l k).word with
 | 1=>(nameF l (k+1)).then fun s i=>(textF l i).then fun ps j=> .ok (.mk 1 s 0 ps exNone [] [] [] p) j
 | 2=>(nameF l (k+1)).then fun s i=>(condF l i).then fun x j=> .ok (.mk 2 s 0 [] x [] [] [] p) j
 | 3=>(nameF l (k+1)).then fun s i=>(numF l 3 i).then fun z j=> .ok (.mk 3 s z [] exNone [] [] [] p) j
 | 4=>(condF l (k+1)).then fun x i=>(blk d i).then fun b j=>if isT l 1 [101,108,115,101] j then (blk d (j+1)).then fun e m=> .ok (.mk 4 [] 0 [] x b e [] p) m else .ok (.mk 4 [] 0 [] x b [] [] p) j
 | 5=>(condF l (k+1)).then fun x i=>(blk d i).then fun b j=> .ok (.mk 5 [] 0 [] x b [] [] p) j
 | 6=>(nameF l (k+1)).then fun s i=>(blk d i).then fun b j=> .ok (.mk 6 s 0 [] exNone b [] [] p) j
 | 7=>(nameF l (k+1)).then fun s i=> .ok (.mk 7 s 0 [] exNone [] [] [] p) i
 | 8=>(numF l 8 (k+1)).then fun z i=> .ok (.mk 8 [] z [] exNone [] [] [] p) i
 | 9=>(numF l 9 (k+1)).then fun z i=> .ok (.mk 9 [] z [] exNone [] [] [] p) i
 | 10=>(textF l (k+1)).then fun ps i=> .ok (.mk 10 [] 0 ps exNone [] [] [] p) i
 | 11=>(numF l 11 (k+1)).then fun z i=> .ok (.mk 11 [] z [] exNone [] [] [] p) i
 | 12=>(rulesF l blk d (k+1)).then fun u i=> .ok (.mk 12 [] 0 [] exNone [] [] u p) i
 | 13=>(rulesF l blk d (k+1)).then fun u i=> .ok (.mk 13 [] 0 [] exNone [] [] u p) i
 | 14=>(rulesF l blk d (k+1)).then fun u i=> .ok (.mk 14 [] 0 [] exNone [] [] u p) i
 | 15=> .ok (.mk 15 [] 0 [] exNone [] [] [] p) (k+1)
 | 16=> .ok (.mk 16 [] 0 [] exNone [] [] [] p) (k+1)
 | _=> .bad k false
noncomputable def cmdsF:Nat→Nat→Nat→Rz (List Cm)
 | 0,_,k=> .ok [] k
 | N+1,d,k=>if (nxz l k).kind=1 then (cmdF l (blockF l (cmdsF N)) d k).then fun c i=>(cmdsF N d i).then fun cs m=> .ok (c::cs) m else .ok [] k
noncomputable def cmdsD:Nat→Nat→Nat→Rz (List Cm)
 | 0,_,k=>if k<l.length∧¬ isT l 4 [125] k=true then .bad k false else .ok [] k
 | N+1,d,k=>if k<l.length∧¬ isT l 4 [125] k=true then (if (nxz l k).kind=1 then (cmdF l (blockF l (cmdsD N)) d k).then fun c i=>(cmdsD N d i).then fun cs m=> .ok (c::cs) m else .bad k false) else .ok [] k
noncomputable def allF:Rz (List Cm):=(cmdsF l (l.length+1) 0 0).then fun x j=>if j<l.length then .bad j false else .ok x j
noncomputable def allD:Rz (List Cm):=(cmdsD l (l.length+1) 0 0).then fun x j=>if j<l.length then .bad j false else .ok x j
end
section
theorem Rz.within.from {α:Type} {i i' n:Nat} {R:Rz α} (h:R.within i n) (hi:i'≤i):R.within i' n:=by
 cases R with
 | ok x j=>exact⟨Nat.le_trans hi h.1,h.2⟩
 | bad j d=>exact h
theorem z0q {α β:Type} {i n:Nat} {R:Rz α} {g:α→β} (h:R.within i n):(R.then fun x j=> .ok (g x) j).within i n:=z0z h fun _ _ _ _ h2=>⟨Nat.le_refl _,h2⟩
variable {l:List Tok}
theorem z36 {kd:Int} {w:Bs} {k:Nat} (hk:kd≠0) (h:k≤l.length):(needF l kd w k).within k l.length:=by
 unfold needF
 split
 ·rename_i c;exact⟨Nat.le_succ _,z1q c hk⟩
 ·exact h
theorem z5d {kd:Int} {k:Nat} (hk:kd≠0) (h:k≤l.length):(kindF l kd k).within k l.length:=by
 unfold kindF
 split
 ·rename_i c;exact⟨Nat.le_succ _,z17 (by rw[c];exact hk)⟩
 ·exact h
theorem z1u {k:Nat} (h:k≤l.length):(nameF l k).within k l.length:=by
 unfold nameF
 split
 ·rename_i c;exact⟨Nat.le_succ _,z17 (by rw[c.1];decide)⟩
 ·exact h
theorem z6r {k:Nat} (h:k≤l.length):(textF l k).within k l.length:=z0q (z5d (by decide) h)
theorem z3s {kind:Int} {k:Nat} (h:k≤l.length):(numF l kind k).within k l.length:=by
 unfold numF
 split
 ·rename_i c;exact(z0q (z5d (by decide) (z1q c.2 (by decide)))).from (Nat.le_succ _)
 ·split
  ·rename_i c;exact⟨Nat.le_succ _,z1q c.2 (by decide)⟩
  ·exact z0q (z5d (by decide) h)
theorem x5e {k:Nat} (h:k≤l.length):(exR l k).within l k:=by
 unfold exR
 split
 ·rename_i c;exact c.choose_spec.within (Nat.le_refl 1) h
 ·exact⟨Nat.le_refl _,h,.inl rfl⟩
theorem x5o {k:Nat} {r:Rs} (h:r.within l k):(exZ r).within k l.length:=by
 cases r with
 | ok x j=>exact h
 | bad j e=>exact h.2.1
theorem z1z {k:Nat} (h:k≤l.length):(condF l k).within k l.length:=by
 have h1:=z36 (l:=l) (kd:=4) (w:=[40]) (by decide) h;unfold condF
 cases hq:needF l 4 [40] k with
 | bad j d=>rw[hq] at h1;exact h1
 | ok u i=>
   rw[hq] at h1;have h2:=x5o (x5e h1.2);show ((exZ (exR l i)).then _).within k l.length
   cases hx:exZ (exR l i) with
   | bad j d=>rw[hx] at h2;exact h2
   | ok x j=>
     rw[hx] at h2;have h3:=z36 (l:=l) (kd:=4) (w:=[41]) (by decide) h2.2;show ((needF l 4 [41] j).then _).within k l.length
     cases hn:needF l 4 [41] j with
     | bad m d=>rw[hn] at h3;exact h3
     | ok u m=>
       rw[hn] at h3;show (if mayX x 0=true then Rz.ok x m else .bad k true).within k l.length
       split
       ·exact⟨by have:=h1.1;have:=h2.1;have:=h3.1;omega,h3.2⟩
       ·exact h
theorem z5k {d k:Nat} (h:k≤l.length):(braceF l d k).within k l.length:=by
 unfold braceF
 split
 ·exact h
 ·exact z36 (by decide) h
def BlkIn (l:List Tok) (blk:Nat→Nat→Rz (List Cm)):Prop:=∀ d k,k≤l.length→(blk d k).within k l.length
theorem z26 {rec:Nat→Nat→Rz (List Cm)} (hr:BlkIn l rec):BlkIn l (blockF l rec):=fun _ _ h=>
 z0z (z5k h) fun _ _ _ _ h1=>z0z (hr _ _ h1) fun _ _ _ _ h2=>z0q (g:=fun _=>_) (z36 (by decide) h2)
theorem z70 {k:Nat} (h:k≤l.length):(plainF l k).within k l.length:=by
 unfold plainF
 split
 ·rename_i c
  split
  ·exact⟨Nat.le_succ _,z17 (by rw[c];decide)⟩
  ·exact h
 ·exact h
theorem y3a {k:Nat} (h:k≤l.length):(patF l k).within k l.length:=by
 unfold patF
 split
 ·rename_i c;exact(z0q (z70 (z1q c (by decide)))).from (Nat.le_succ _)
 ·split
  ·rename_i c;exact(z0q (z70 (z1q c (by decide)))).from (Nat.le_succ _)
  ·split
   ·rename_i c;exact(z0q (z70 (z1q c (by decide)))).from (Nat.le_succ _)
   ·exact h
theorem z77 {told:Bool} {k:Nat} (h:k≤l.length):(rwordF l told k).within k l.length:=by
 unfold rwordF
 split
 ·rename_i c;exact⟨Nat.le_succ _,z1q c.2 (by decide)⟩
 ·split
  ·rename_i c;exact⟨Nat.le_succ _,z1q c (by decide)⟩
  ·split
   ·rename_i c;exact⟨Nat.le_succ _,z1q c.2 (by decide)⟩
   ·exact h
theorem y0c {k:Nat} (h:k≤l.length):(peerF l k).within k l.length:=by
 unfold peerF
 split
 ·rename_i c;exact(z0q (z5d (by decide) (z1q c (by decide)))).from (Nat.le_succ _)
 ·exact⟨Nat.le_refl _,h⟩
theorem z91 {told:Bool} {k:Nat} (h:k≤l.length):(headF l told k).within k l.length:=by
 unfold headF
 split
 ·exact z0q (y3a h)
 ·exact z0q (z77 h)
theorem z82 {told:Bool} {k:Nat} {p:Int × Int × Bs} {j:Nat} (h:headF l told k= .ok p j):k<j:=by
 have e:∀ {α:Type} {f:Bs→α} {x:α},((plainF l (k+1)).then fun s j=> .ok (f s) j)= .ok x j→k<j:=fun {α f x} h=>by
  obtain⟨s,i,h1,h2⟩:=Rz.then_ok h;injection h2 with _ h2
  subst h2;unfold plainF at h1
  split at h1
  ·split at h1
   ·injection h1 with _ h1;omega
   ·cases h1
  ·cases h1
 unfold headF at h
 split at h
 ·obtain⟨s,i,h1,h2⟩:=Rz.then_ok h
  injection h2 with _ h2
  subst h2;unfold patF at h1
  split at h1
  ·exact e h1
  ·split at h1
   ·exact e h1
   ·split at h1
    ·exact e h1
    ·cases h1
 ·obtain⟨s,i,h1,h2⟩:=Rz.then_ok h
  injection h2 with _ h2
  subst h2;unfold rwordF at h1
  split at h1
  ·injection h1 with _ h1;omega
  ·split at h1
   ·injection h1 with _ h1;omega
   ·split at h1
    ·injection h1 with _ h1;omega
    ·cases h1
theorem y4i {blk:Nat→Nat→Rz (List Cm)} (hb:BlkIn l blk) {d k:Nat} (h:k≤l.length):(ruleF l blk d k).within k l.length:=
 z0z (y0c h) fun _ _ _ _ h1=>z0z (z91 h1) fun _ _ _ _ h2=>z0q (g:=fun _=>_) (hb _ _ h2)
theorem z0r {α:Type} {i n:Nat} {R:Rz α} {x:α} {j:Nat} (h:R.within i n) (e:R= .ok x j):i≤j∧j≤n:=by subst e;exact h
theorem z5t {blk:Nat→Nat→Rz (List Cm)} (hb:BlkIn l blk) {d k:Nat} (h:k≤l.length) {r:Ru} {j:Nat} (e:ruleF l blk d k= .ok r j):k<j:=by
 obtain⟨q,i,h1,e⟩:=Rz.then_ok e;have a1:=z0r (y0c h) h1;obtain⟨p,m,h2,e⟩:=Rz.then_ok e;have a2:=z0r (z91 a1.2) h2;have a3:=z82 h2;obtain⟨b,m2,h3,e⟩:=Rz.then_ok e;have a4:=z0r (hb _ _ a2.2) h3;injection e with _ e
 omega
theorem y1o {blk:Nat→Nat→Rz (List Cm)} (hb:BlkIn l blk) {d:Nat}:∀ {N k:Nat},k≤l.length→(rulesL l blk d N k).within k l.length
 | 0,k,h=>h
 | N+1,k,h=>z0z (y4i hb h) fun r i hi _ h1=>by
   split
   ·rename_i c;exact⟨Nat.le_succ _,z1q c (by decide)⟩
   ·exact z0q (g:=fun _=>_) (y1o hb h1)
theorem z7b {blk:Nat→Nat→Rz (List Cm)} (hb:BlkIn l blk) {d k:Nat} (h:k≤l.length):(rulesF l blk d k).within k l.length:=z0z (z5k h) fun _ _ _ _ h1=>y1o hb h1
theorem y0r {blk:Nat→Nat→Rz (List Cm)} (hb:BlkIn l blk) {d k:Nat} (h:k<l.length):(cmdF l blk d k).within (k+1) l.length:=by
 have h1:k+1≤l.length:=h;unfold cmdF;dsimp only
 split
 ·exact z0z (z1u h1) fun _ _ _ _ h2=>z0q (g:=fun _=>_) (z6r h2)
 ·exact z0z (z1u h1) fun _ _ _ _ h2=>z0q (g:=fun _=>_) (z1z h2)
 ·exact z0z (z1u h1) fun _ _ _ _ h2=>z0q (g:=fun _=>_) (z3s h2)
 ·refine z0z (z1z h1) fun _ _ _ _ h2=>z0z (hb _ _ h2) fun _ _ _ _ h3=>?_
  split
  ·rename_i c;exact(z0q (g:=fun _=>_) (hb _ _ (z1q c (by decide)))).from (Nat.le_succ _)
  ·exact⟨Nat.le_refl _,h3⟩
 ·exact z0z (z1z h1) fun _ _ _ _ h2=>z0q (g:=fun _=>_) (hb _ _ h2)
 ·exact z0z (z1u h1) fun _ _ _ _ h2=>z0q (g:=fun _=>_) (hb _ _ h2)
 ·exact z0q (g:=fun _=>_) (z1u h1)
 ·exact z0q (g:=fun _=>_) (z3s h1)
 ·exact z0q (g:=fun _=>_) (z3s h1)
 ·exact z0q (g:=fun _=>_) (z6r h1)
 ·exact z0q (g:=fun _=>_) (z3s h1)
 ·exact z0q (g:=fun _=>_) (z7b hb h1)
 ·exact z0q (g:=fun _=>_) (z7b hb h1)
 ·exact z0q (g:=fun _=>_) (z7b hb h1)
 ·exact⟨Nat.le_refl _,h1⟩
 ·exact⟨Nat.le_refl _,h1⟩
 ·exact Nat.le_of_lt h
theorem z5b:∀ N,BlkIn l (cmdsF l N)
 | 0,_,_,h=>⟨Nat.le_refl _,h⟩
 | N+1,d,k,h=>by
   rw[cmdsF]
   split
   ·rename_i c
    exact(z0z (y0r (z26 (z5b N)) (z17 (by rw[c];decide))) fun _ _ _ _ h2=>z0q (g:=fun _=>_) (z5b N d _ h2)).from (Nat.le_succ _)
   ·exact⟨Nat.le_refl _,h⟩
theorem z41:∀ N,BlkIn l (cmdsD l N)
 | 0,_,_,h=>by
   rw[cmdsD]
   split
   ·exact h
   ·exact⟨Nat.le_refl _,h⟩
 | N+1,d,k,h=>by
   rw[cmdsD]
   split
   ·rename_i c1
    split
    ·rename_i c
     exact(z0z (y0r (z26 (z41 N)) (z17 (by rw[c];decide))) fun _ _ _ _ h2=>z0q (g:=fun _=>_) (z41 N d _ h2)).from (Nat.le_succ _)
    ·exact h
   ·exact⟨Nat.le_refl _,h⟩
def adj (l:List Tok) (R:Rz (List Cm)):Rz (List Cm):=R.then fun x j=>if j<l.length∧¬ isT l 4 [125] j=true then .bad j false else .ok x j
theorem x1h (R:Rz (List Cm)):((adj l R).then fun x j=>(needF l 4 [125] j).then fun _ m=>Rz.ok x m)=R.then fun x j=>(needF l 4 [125] j).then fun _ m=>Rz.ok x m:=by
 cases R with
 | bad j d=>rfl
 | ok x j=>
   by_cases c:j<l.length∧¬ isT l 4 [125] j=true
   ·have e1:adj l (Rz.ok x j)= .bad j false:=if_pos c
    have e2:needF l 4 [125] j= .bad j false:=if_neg c.2;rw[e1];show _=(needF l 4 [125] j).then _
    rw[e2];rfl
   ·have e1:adj l (Rz.ok x j)= .ok x j:=if_neg c
    rw[e1]
theorem y6g {r r':Nat→Nat→Rz (List Cm)} (h:∀ d k,r' d k=adj l (r d k)):blockF l r'=blockF l r:=by
 funext d k
 unfold blockF
 congr 1
 funext _ i
 rw[h,x1h]
theorem x18 {α:Type} (R:Rz α) (f:α→Nat→Rz (List Cm)):adj l (R.then f)=R.then fun x j=>adj l (f x j):=by cases R <;> rfl
theorem x1z (c:Cm) (R:Rz (List Cm)):adj l (R.then fun cs m=> .ok (c::cs) m)=(adj l R).then fun cs m=> .ok (c::cs) m:=by
 cases R with
 | bad j d=>rfl
 | ok x j=>
   show (if _ then _ else _)=(if _ then _ else _:Rz _).then _
   split <;> rfl
theorem y1i:∀ N d k,cmdsD l N d k=adj l (cmdsF l N d k)
 | 0,d,k=>rfl
 | N+1,d,k=>by
   have ih:=y1i N;rw[cmdsD,cmdsF,y6g ih];by_cases c:(nxz l k).kind=1
   ·have h1:k<l.length:=z17 (by rw[c];decide)
    have h2:¬ isT l 4 [125] k=true:=fun e=>by
     have:=(of_decide_eq_true e).1;rw[c] at this;cases this
    rw[if_pos ⟨h1,h2⟩,if_pos c,if_pos c,x18]
    congr 1
    funext c i
    rw[x1z,ih]
   ·rw[if_neg c,if_neg c];rfl
theorem x4s:allD l=allF l:=by
 unfold allD allF;rw[y1i]
 cases cmdsF l (l.length+1) 0 0 with
 | bad j d=>rfl
 | ok x j=>
   show (if _ then _ else _:Rz _).then _=if _ then _ else _
   by_cases c:j<l.length
   ·by_cases c2:isT l 4 [125] j=true
    ·rw[if_neg (fun e=>e.2 c2)];rfl
    ·rw[if_pos ⟨c,c2⟩,if_pos c];rfl
   ·rw[if_neg (fun e=>c e.1)];rfl
end
def LieL (w:World) (a:Addr) (vs:List Value):Prop:=∀ j u,vs[j]?=some u→w.cell? (a.add j)=some u
theorem LieL.keep {w w':World} {a:Addr} {vs:List Value} (h:LieL w a vs) (hb:∀ p:Addr,p.block=a.block→w'.cell? p=w.cell? p):LieL w' a vs:=fun j u hu=>(hb _ (z0p a j)).trans (h j u hu)
def RdP (P:Nat→Prop) (w:World) (A:OA) (ps:List Pt):Prop:=ps=[]∨∃ ad,A=some ad∧P ad.block∧LieL w ad (cellsP ps)
structure Lk where
 p:OA
 cp:Nat
 x:OA
 cx:Nat
 b:OA
 cb:Nat
 e:OA
 ce:Nat
 u:OA
 cu:Nat
def cellsC (c:Cm) (k:Lk):List Value:=[c.kind,c.name,c.n,.slice k.p c.parts.length k.cp,c.cond.kind,c.cond.n,c.cond.name,c.cond.op,.slice k.x c.cond.kids.length k.cx,
 .slice k.b c.body.length k.cb,.slice k.e c.els.length k.ce,.slice k.u c.rules.length k.cu,c.pl]
def valC (c:Cm) (k:Lk):Value:= .agg (cellsC c k).toArray
def cellsR (r:Ru) (A:OA) (c:Nat):List Value:=[r.kind,r.peer,r.pk,r.pt,.slice A r.body.length c,r.pl]
def valR (r:Ru) (A:OA) (c:Nat):Value:= .agg (cellsR r A c).toArray
mutual
def KidC (P:Nat→Prop) (w:World) (k:Lk):Cm→Prop
 | .mk _ _ _ ps x b e u _=>RdP P w k.p ps∧KidsX P w k.x x∧(b=[]∨∃ ad,k.b=some ad∧P ad.block∧KidCL P w ad 0 b)∧(e=[]∨∃ ad,k.e=some ad∧P ad.block∧KidCL P w ad 0 e)∧(u=[]∨∃ ad,k.u=some ad∧P ad.block∧KidRL P w ad 0 u)
def KidR (P:Nat→Prop) (w:World) (A:OA):Ru→Prop
 | .mk _ _ _ _ b _=>b=[]∨∃ ad,A=some ad∧P ad.block∧KidCL P w ad 0 b
def KidCL (P:Nat→Prop) (w:World) (ad:Addr) (i:Nat):List Cm→Prop
 | []=>True
 | c::cs=>(∃ k,LieL w (ad.add (i * 13)) (cellsC c k)∧KidC P w k c)∧KidCL P w ad (i+1) cs
def KidRL (P:Nat→Prop) (w:World) (ad:Addr) (i:Nat):List Ru→Prop
 | []=>True
 | r::rs=>(∃ A c,LieL w (ad.add (i * 6)) (cellsR r A c)∧KidR P w A r)∧KidRL P w ad (i+1) rs
end
def RowC (P:Nat→Prop) (w:World) (A:OA) (b:List Cm):Prop:=b=[]∨∃ ad,A=some ad∧P ad.block∧KidCL P w ad 0 b
def RowU (P:Nat→Prop) (w:World) (A:OA) (u:List Ru):Prop:=u=[]∨∃ ad,A=some ad∧P ad.block∧KidRL P w ad 0 u
theorem z0u {P:Nat→Prop} {w:World} {k:Lk} {c:Cm}:KidC P w k c ↔ RdP P w k.p c.parts∧KidsX P w k.x c.cond∧RowC P w k.b c.body∧RowC P w k.e c.els∧RowU P w k.u c.rules:=by cases c;rw[KidC];exact Iff.rfl
theorem z2j {P:Nat→Prop} {w:World} {A:OA} {r:Ru}:KidR P w A r ↔ RowC P w A r.body:=by cases r;rw[KidR];exact Iff.rfl
theorem z2o {P:Nat→Prop} {w:World} {ad:Addr}:∀ {l:List Cm} {i:Nat},KidCL P w ad i l ↔ ∀ j c,l[j]?=some c→∃ k,LieL w (ad.add ((i+j) * 13)) (cellsC c k)∧KidC P w k c
 | [],i=>by rw[KidCL];simp
 | x::l,i=>by
   rw[KidCL,z2o (l:=l)]
   constructor
   ·rintro⟨h0,h⟩ j c hj
    cases j with
    | zero=>injection hj with hj;subst hj;exact h0
    | succ j=>have:=h j c (by simpa using hj);rwa [show i+1+j=i+(j+1) by omega] at this
   ·intro h
    refine⟨h 0 x rfl,fun j c hj=>?_⟩;have:=h (j+1) c (by simpa using hj);rwa [show i+(j+1)=i+1+j by omega] at this
theorem z2r {P:Nat→Prop} {w:World} {ad:Addr}:∀ {l:List Ru} {i:Nat},KidRL P w ad i l ↔ ∀ j r,l[j]?=some r→∃ A c,LieL w (ad.add ((i+j) * 6)) (cellsR r A c)∧KidR P w A r
 | [],i=>by rw[KidRL];simp
 | x::l,i=>by
   rw[KidRL,z2r (l:=l)]
   constructor
   ·rintro⟨h0,h⟩ j c hj
    cases j with
    | zero=>injection hj with hj;subst hj;exact h0
    | succ j=>have:=h j c (by simpa using hj);rwa [show i+1+j=i+(j+1) by omega] at this
   ·intro h
    refine⟨h 0 x rfl,fun j c hj=>?_⟩;have:=h (j+1) c (by simpa using hj);rwa [show i+(j+1)=i+1+j by omega] at this
theorem RdP.of {P Q:Nat→Prop} {w w':World} {A:OA} {ps:List Pt} (hs:∀ p:Addr,P p.block→w'.cell? p=w.cell? p) (hPQ:∀ k,P k→Q k) (h:RdP P w A ps):RdP Q w' A ps:=by
 rcases h with h | ⟨ad,e,hp,hl⟩
 ·exact .inl h
 ·exact .inr ⟨ad,e,hPQ _ hp,hl.keep fun p hpb=>hs p (by rw[hpb];exact hp)⟩
theorem z9p {P Q:Nat→Prop} {w w':World} {A:OA} {b:List Cm} (hs:∀ p:Addr,P p.block→w'.cell? p=w.cell? p) (hPQ:∀ k,P k→Q k) (hb:∀ c∈b,∀ k,KidC P w k c→KidC Q w' k c) (h:RowC P w A b):RowC Q w' A b:=by
 rcases h with h | ⟨ad,e,hp,hl⟩
 ·exact .inl h
 ·refine .inr ⟨ad,e,hPQ _ hp,z2o.2 fun j c hj=>?_⟩
  obtain⟨k,h1,h2⟩:=z2o.1 hl j c hj;exact⟨k,h1.keep fun p hpb=>hs p (by rw[hpb,z0p];exact hp),hb c (List.mem_of_getElem? hj) k h2⟩
theorem y9r {P Q:Nat→Prop} {w w':World} {A:OA} {b:List Ru} (hs:∀ p:Addr,P p.block→w'.cell? p=w.cell? p) (hPQ:∀ k,P k→Q k) (hb:∀ c∈b,∀ A,KidR P w A c→KidR Q w' A c) (h:RowU P w A b):RowU Q w' A b:=by
 rcases h with h | ⟨ad,e,hp,hl⟩
 ·exact .inl h
 ·refine .inr ⟨ad,e,hPQ _ hp,z2r.2 fun j c hj=>?_⟩
  obtain⟨A',c',h1,h2⟩:=z2r.1 hl j c hj;exact⟨A',c',h1.keep fun p hpb=>hs p (by rw[hpb,z0p];exact hp),hb c (List.mem_of_getElem? hj) A' h2⟩
theorem y8y {P Q:Nat→Prop} {w w':World} (hs:∀ p:Addr,P p.block→w'.cell? p=w.cell? p) (hPQ:∀ k,P k→Q k):(∀ (c:Cm) (k:Lk),KidC P w k c→KidC Q w' k c)∧∀ (r:Ru) (A:OA),KidR P w A r→KidR Q w' A r:=by
 refine Cm.ind2 (P:=fun c=>∀ k:Lk,KidC P w k c→KidC Q w' k c) (Q:=fun r=>∀ A:OA,KidR P w A r→KidR Q w' A r) ?_ ?_
 ·intro k nm n ps x b e u p hb he hu lk h
  rw[z0u] at h ⊢;obtain⟨h1,h2,h3,h4,h5⟩:=h;exact⟨h1.of hs hPQ,z4y hs hPQ _ _ h2,z9p hs hPQ hb h3,z9p hs hPQ he h4,y9r hs hPQ hu h5⟩
 ·intro k q pk pt b p hb A h
  rw[z2j] at h ⊢;exact z9p hs hPQ hb h
theorem KidC.of {P Q:Nat→Prop} {w w':World} {k:Lk} {c:Cm} (h:KidC P w k c) (hs:∀ p:Addr,P p.block→w'.cell? p=w.cell? p) (hPQ:∀ k,P k→Q k):KidC Q w' k c:=(y8y hs hPQ).1 c k h
theorem KidR.of {P Q:Nat→Prop} {w w':World} {A:OA} {r:Ru} (h:KidR P w A r) (hs:∀ p:Addr,P p.block→w'.cell? p=w.cell? p) (hPQ:∀ k,P k→Q k):KidR Q w' A r:=(y8y hs hPQ).2 r A h
theorem RowC.of {P Q:Nat→Prop} {w w':World} {A:OA} {b:List Cm} (h:RowC P w A b) (hs:∀ p:Addr,P p.block→w'.cell? p=w.cell? p) (hPQ:∀ k,P k→Q k):RowC Q w' A b:=z9p hs hPQ (fun _ _ _ h=>h.of hs hPQ) h
theorem RowU.of {P Q:Nat→Prop} {w w':World} {A:OA} {b:List Ru} (h:RowU P w A b) (hs:∀ p:Addr,P p.block→w'.cell? p=w.cell? p) (hPQ:∀ k,P k→Q k):RowU Q w' A b:=y9r hs hPQ (fun _ _ _ h=>h.of hs hPQ) h
theorem RdP.next {w w':World} {A:OA} {b:List Pt} (h:RdP (LtX w.heap.size) w A b) (hb:Below w.heap.size w w'):RdP (LtX w'.heap.size) w' A b:=h.of (fun _ h=>hb.cell h) (fun _ h=>Nat.lt_of_lt_of_le h hb.size)
theorem KidC.next {w w':World} {k:Lk} {c:Cm} (h:KidC (LtX w.heap.size) w k c) (hb:Below w.heap.size w w'):KidC (LtX w'.heap.size) w' k c:=h.of (fun _ h=>hb.cell h) (fun _ h=>Nat.lt_of_lt_of_le h hb.size)
theorem RowC.next {w w':World} {A:OA} {b:List Cm} (h:RowC (LtX w.heap.size) w A b) (hb:Below w.heap.size w w'):RowC (LtX w'.heap.size) w' A b:=h.of (fun _ h=>hb.cell h) (fun _ h=>Nat.lt_of_lt_of_le h hb.size)
theorem RowU.next {w w':World} {A:OA} {b:List Ru} (h:RowU (LtX w.heap.size) w A b) (hb:Below w.heap.size w w'):RowU (LtX w'.heap.size) w' A b:=h.of (fun _ h=>hb.cell h) (fun _ h=>Nat.lt_of_lt_of_le h hb.size)
theorem z5e {B:Nat} {w:World} {A:OA} {ps:List Pt}:RdP (LtX B) w A ps ↔ Rd B w A ps.length ps:=by
 constructor
 ·rintro(rfl | ⟨ad,e,hp,hl⟩)
  ·exact⟨rfl,fun h=>absurd h (by simp)⟩
  ·exact⟨rfl,fun _=>⟨ad,e,hp,hl⟩⟩
 ·rintro⟨_,h⟩
  by_cases c:ps=[]
  ·exact .inl c
  ·obtain⟨ad,e,h1,h2⟩:=h (List.length_pos_iff.2 c)
   exact .inr ⟨ad,e,h1,h2⟩
structure BoxL (w:World) (c:Nat) (vs:List Value):Prop where
 at_:∀ j u,vs[j]?=some u→w.cell? ⟨c,j,none⟩=some u
 fr:∀ j,j<vs.length→w.frozen? ⟨c,j,none⟩=false
theorem BoxL.new (w:World) (T:TypeId) (vs:List Value):BoxL (w.alloc (.cells vs.toArray T)) w.heap.size vs:=
 ⟨fun j u h=>z1e w T vs.toArray j u (by simpa using h),fun j hj=>by simp[go_sem]⟩
theorem BoxL.lt {w:World} {c:Nat} {vs:List Value} (h:BoxL w c vs) (hv:0<vs.length):c<w.heap.size:=World.block_lt_of_cell? w _ (h.at_ 0 vs[0] (List.getElem?_eq_getElem hv))
theorem BoxL.grown {b c:Nat} {w w':World} {vs:List Value} (h:BoxL w c vs) (hv:0<vs.length) (hg:w.grownBy w' (some b)) (hn:c≠b):BoxL w' c vs:=by
 have e:w'.heap[c]?=w.heap[c]?:=hg.block c (h.lt hv) (fun e=>hn (by injection e));exact⟨fun j u hu=>(World.cell?_of_block (a:=⟨c,j,none⟩) e).trans (h.at_ j u hu),fun j hj=>(World.frozen?_of_block (a:=⟨c,j,none⟩) e).trans (h.fr j hj)⟩
theorem BoxL.low {c:Nat} {w w':World} {vs:List Value} (h:BoxL w c vs) (hv:0<vs.length) (hb:Below w.heap.size w w'):BoxL w' c vs:=h.grown hv (b:=c+1) (z0g hb) (by omega)
theorem BoxL.other {w:World} {c:Nat} {vs:List Value} (h:BoxL w c vs) {a:Addr} (ha:a.block≠c) (u:Value):BoxL (w.setCell a u) c vs:=
 ⟨fun j v hv=>(World.cell?_setCell_other _ _ _ _ (fun e=>ha (by rw[e]))).trans (h.at_ j v hv),fun j hj=>(World.frozen?_setCell ..).trans (h.fr j hj)⟩
theorem BoxL.set {w:World} {c:Nat} {vs:List Value} (h:BoxL w c vs) (j:Nat) (hj:j<vs.length) (u:Value):BoxL (w.setCell ⟨c,j,none⟩ u) c (vs.set j u):=by
 refine⟨fun i v hv=>?_,fun i hi=>(World.frozen?_setCell ..).trans (h.fr i (by simpa using hi))⟩;by_cases e:j=i
 ·subst e
  rw[List.getElem?_set_self hj] at hv;injection hv with hv
  subst hv;exact z1p _ _ _ _ _ (h.at_ j _ (List.getElem?_eq_getElem hj))
 ·rw[List.getElem?_set_ne e] at hv
  rw[z1h _ _ _ _ _ e];exact h.at_ i v hv
section
structure RdS (b:Nat) (w:World) (A:OA) (n c:Nat) (l:List Tok) (k o:Nat):Prop where
 c0:w.cell? ⟨b,0,none⟩=some (.slice A n c)
 c1:w.cell? ⟨b,1,none⟩=some (.int .i64 k)
 c2:w.cell? ⟨b,2,none⟩=some (.int .i64 o)
 f1:w.frozen? ⟨b,1,none⟩=false
 f2:w.frozen? ⟨b,2,none⟩=false
 row:RdT b w A n l
 giv:∀ w',Below b w w'→Given w'
 fit:FitL l
 le:k≤n
 oks:o=0∨o=1∨o=8
 few:n≤4000
section
variable {b:Nat} {w w':World} {A:OA} {n c:Nat} {l:List Tok} {k o:Nat}
theorem RdS.lt (h:RdS b w A n c l k o):b<w.heap.size:=World.block_lt_of_cell? w _ h.c0
theorem RdS.low (h:RdS b w A n c l k o) (hB:Below w.heap.size w w'):RdS b w' A n c l k o:=
 ⟨(hB.cell (p:=⟨b,0,none⟩) h.lt).trans h.c0,(hB.cell (p:=⟨b,1,none⟩) h.lt).trans h.c1,(hB.cell (p:=⟨b,2,none⟩) h.lt).trans h.c2,(hB.frozen (p:=⟨b,1,none⟩) h.lt).trans h.f1,(hB.frozen (p:=⟨b,2,none⟩) h.lt).trans h.f2,
   h.row.keep (hB.mono (Nat.le_of_lt h.lt)),fun w2 h2=>h.giv w2 ((hB.mono (Nat.le_of_lt h.lt)).trans h2),h.fit,h.le,h.oks,h.few⟩
theorem RdS.other (h:RdS b w A n c l k o) {a:Addr} (ha:b<a.block) (u:Value):RdS b (w.setCell a u) A n c l k o:=by
 have hB:Below b w (w.setCell a u):=bR.setCell (by omega) _;have ne:∀ j,(w.setCell a u).cell? ⟨b,j,none⟩=w.cell? ⟨b,j,none⟩:=fun j=>World.cell?_setCell_other _ _ _ _ (fun e=>by rw[e] at ha;exact absurd ha (Nat.lt_irrefl _))
 exact⟨(ne 0).trans h.c0,(ne 1).trans h.c1,(ne 2).trans h.c2,(World.frozen?_setCell ..).trans h.f1,(World.frozen?_setCell ..).trans h.f2,h.row.keep hB,fun w2 h2=>h.giv w2 (hB.trans h2),h.fit,h.le,h.oks,h.few⟩
theorem RdS.place (h:RdS b w A n c l k o) (j:Nat) (z:Int) (hz:z=j) (hj:j≤n):RdS b (w.setCell ⟨b,1,none⟩ (.int .i64 z)) A n c l j o:=by
 subst hz;have hB:Below b w (w.setCell ⟨b,1,none⟩ (.int .i64 j)):=(Below.refl b w).setCell (Nat.le_refl b) _;exact⟨(z1h _ _ _ _ _ (by omega)).trans h.c0,z1p _ _ _ _ _ h.c1,(z1h _ _ _ _ _ (by omega)).trans h.c2,(World.frozen?_setCell ..).trans h.f1,(World.frozen?_setCell ..).trans h.f2,h.row.keep hB,fun w2 h2=>h.giv w2 (hB.trans h2),h.fit,hj,h.oks,h.few⟩
theorem RdS.fault (h:RdS b w A n c l k o) (e:Nat) (he:e=0∨e=1∨e=8):RdS b (w.setCell ⟨b,2,none⟩ (.int .i64 e)) A n c l k e:=by
 have hB:Below b w (w.setCell ⟨b,2,none⟩ (.int .i64 e)):=(Below.refl b w).setCell (Nat.le_refl b) _;exact⟨(z1h _ _ _ _ _ (by omega)).trans h.c0,(z1h _ _ _ _ _ (by omega)).trans h.c1,z1p _ _ _ _ _ h.c2,(World.frozen?_setCell ..).trans h.f1,(World.frozen?_setCell ..).trans h.f2,h.row.keep hB,fun w2 h2=>h.giv w2 (hB.trans h2),h.fit,h.le,he,h.few⟩
theorem RdS.box (h:RdS b w A n c l k o) (x:Obj):RdS b (w.alloc x) A n c l k o:=h.low (bR.alloc nR _)
theorem RdS.five (h:RdS b w A n c l k o):w.cell? ⟨b,0,none⟩=some (.slice A n c)∧w.cell? ⟨b,1,none⟩=some (.int .i64 k)∧w.cell? ⟨b,2,none⟩=some (.int .i64 o)∧w.frozen? ⟨b,1,none⟩=false∧w.frozen? ⟨b,2,none⟩=false:=⟨h.c0,h.c1,h.c2,h.f1,h.f2⟩
theorem RdS.len (h:RdS b w A n c l k o):n=l.length∧n≤1000000:=⟨h.row.1,by rw[h.row.1];exact h.fit.len⟩
end
def nxo (l:List Tok) (k o:Nat):Tok:=if o=0 then nxz l k else tokZ
def NextS (b:Nat) (w:World) (t:Tok) (e:Ending) (w':World):Prop:=∃ A c,e= .returned (.agg #[t.kind,t.word,t.n,.slice A t.parts.length c,t.pl])∧Below w.heap.size w w'∧Rd b w A t.parts.length t.parts
theorem eqI_f {a b:Nat} (h:¬ a=b):((a:Int)==(b:Int))=false∧(a==b)=false∧((a:Int) != (b:Int))=true∧(a != b)=true:=by
 refine⟨?_,?_,?_,?_⟩ <;> simp <;> omega
theorem eqI_t {a b:Nat} (h:a=b):((a:Int)==(b:Int))=true∧(a==b)=true∧((a:Int) != (b:Int))=false∧(a != b)=false:=by subst h;simp
theorem z1y {a:Nat} (h:¬ a=0):((a:Int)==0)=false∧(a==0)=false∧((a:Int) != 0)=true∧(a != 0)=true:=by
 refine⟨?_,?_,?_,?_⟩ <;> simp <;> omega
theorem z4v (b:Nat) (w:World) (A:OA) (n c:Nat) (l:List Tok) (k o:Nat) (h:RdS b w A n c l k o):
  Cz 31 #[pP b] w (NextS b w (nxo l k o)):=by
 have hbl:=h.lt;have hlen:=h.len;obtain⟨c0,c1,c2,f1,f2,row,giv,fit,le,oks⟩:=h;by_cases o0:o=0
 ·subst o0
  unfold nxo;rw[if_pos rfl];by_cases a:k<n
  ·obtain⟨t,ht⟩:∃ t,l[k]?=some t:=⟨_,List.getElem?_eq_getElem (by omega)⟩
   rw[z11 ht];obtain⟨ad,A',c',rfl,h5,hrd⟩:=row.at_ ht
   obtain⟨x0,x1,x2,x3,x4⟩:=h5;have hbt:(ad.add (k * 5)).block<w.heap.size:=World.block_lt_of_cell? w _ x0;obtain⟨W,hW⟩:∃ W:BA,W=⟨t.word.toArray⟩:=⟨_,rfl⟩;have HRD:=zz hrd;unfold NextS;rw[←hW] at x1 ⊢;generalize t.parts.length=m at x3 HRD ⊢;obtain⟨b1,b2,b3,b4⟩:=eqI_f (show ¬ k=n by omega);have hk1:(k:Int)<n:=by omega
   clear hrd ht hW row giv fit hlen f1 f2;go_enter Tryz.func31,Tryz.ntmps31;go_wp2;go_quiet (fail);go_wp2
   go_region
   go_wp2;refine bodyPost_ret (v:= .agg #[t.kind,W,t.n,.slice A' m c',t.pl]) (by simp[results,Tryz.results31,go_sem]) rfl ⟨A',c',rfl,?_,?_⟩
   ·exact z1b (z0e bR _) _ _ _ _ _
   ·exact HRD.out
  ·have hkn:k=n:=by omega
   rw[z5z (by omega)];unfold NextS tokZ;obtain⟨b1,b2,b3,b4⟩:=eqI_t hkn;clear row giv fit hlen hkn f1 f2;go_enter Tryz.func31,Tryz.ntmps31;go_wp2;go_quiet (fail);go_wp2;refine bodyPost_ret (v:= .agg #[oZ,oS,oZ,(),oZ]) (by simp[results,Tryz.results31,go_sem]) rfl ⟨none,0,rfl,?_,rfl,fun h=>absurd h (by simp)⟩;exact z1b (z0e bR _) _ _ _ _ _
 ·unfold nxo
  rw[if_neg o0];unfold NextS tokZ;obtain⟨b1,b2,b3,b4⟩:=z1y o0;clear row giv fit hlen f1 f2 o0 oks;go_enter Tryz.func31,Tryz.ntmps31;go_wp2;go_quiet (fail);go_wp2;refine bodyPost_ret (v:= .agg #[oZ,oS,oZ,(),oZ]) (by simp[results,Tryz.results31,go_sem]) rfl ⟨none,0,rfl,?_,rfl,fun h=>absurd h (by simp)⟩;exact z1b (z0e bR _) _ _ _ _ _
theorem z18 (er:Nat) (he:er=1∨er=8) (b:Nat) (w:World) (A:OA) (n c:Nat) (l:List Tok) (k o:Nat) (h:RdS b w A n c l k o):
  Cz 17 #[pP b,er] w fun e w'=>e= .returned (.tuple #[])∧RdS b w' A n c l k (if o=0 then er else o)∧w.grownBy w' (some b):=by
 have H:=zz h;obtain⟨c0,c1,c2,_,f2,_,_,_,_,_⟩:=h;by_cases o0:o=0
 ·subst o0
  rw[if_pos rfl];go_enter Tryz.func17,Tryz.ntmps17;go_wp2
  go_end0
  exact⟨rfl,H.out.fault er (.inr he),z01 _ _ _ _⟩
 ·rw[if_neg o0]
  obtain⟨b1,b2,b3,b4⟩:=z1y o0;clear o0;go_enter Tryz.func17,Tryz.ntmps17;go_wp2
  go_end0
  exact⟨rfl,H.out,z0g bR⟩
def isO (l:List Tok) (kd:Int) (s:Bs) (k o:Nat):Bool:=decide ((nxo l k o).kind=kd∧(nxo l k o).word=s)
theorem z1v (l:List Tok) (kd:Int) (s:Bs) (k:Nat):isO l kd s k 0=isT l kd s k:=rfl
theorem y36 (l:List Tok) {kd:Int} (hk:kd≠0) (s:Bs) (k:Nat) {o:Nat} (ho:¬ o=0):isO l kd s k o=false:=by
 unfold isO nxo;rw[if_neg ho];exact decide_eq_false fun e=>hk e.1.symm
theorem z4d {t:Bs} {S W:BA} (hS:S=⟨t.toArray⟩):(t=W.data.toList) ↔ S=W:=by
 subst hS
 constructor
 ·rintro rfl;rfl
 ·rintro rfl;rfl
end
section
theorem z7r {S W:BA} (h:¬ S=W):(S.toList==W.toList)=false:=by
 rw[toList_data,toList_data];apply beq_false_of_ne;intro e;apply h
 cases S;cases W
 congr 1
 exact Array.toList_inj.1 e
theorem z8a (kd:Int) (W:BA) (b:Nat) (w:World) (A:OA) (n c:Nat) (l:List Tok) (k o:Nat) (h:RdS b w A n c l k o):
  Cz 103 #[pP b,kd,W] w fun e w'=>e= .returned (.bool (isO l kd W.data.toList k o))∧Below w.heap.size w w':=by
 have K:=zz (z4v b w A n c l k o h);unfold isO;generalize nxo l k o=t at K ⊢;unfold NextS at K;obtain⟨S,hS⟩:∃ S:BA,S=⟨t.word.toArray⟩:=⟨_,rfl⟩;rw[←hS] at K;obtain⟨v,hv⟩:∃ v,v=decide (t.kind=kd∧t.word=W.data.toList):=⟨_,rfl⟩;rw[←hv];by_cases e1:t.kind=kd
 ·rw[e1] at K
  have b1:(kd==kd)=true:=by simp
  by_cases e2:S=W
  ·have HV:Hid (v=true):=zz (by rw[hv];exact decide_eq_true ⟨e1,(z4d hS).2 e2⟩)
   subst e2;clear h hS hv e1;go_enter Tryz.func103,Tryz.ntmps103;go_wp2_with (go_at_call 31;go_must (((with_reducible refine K.out.mono ?_));rintro e w1 ⟨A1,c1,rfl,hb1,hr1⟩;have HB1:=zz hb1;clear hb1 hr1));go_ret;exact⟨by rw[HV.out];rfl,HB1.out.trans ((bR.alloc nR _).mono HB1.out.size)⟩
  ·have HV:Hid (v=false):=zz (by rw[hv];exact decide_eq_false fun e=>e2 ((z4d hS).1 e.2))
   have b2:(S.toList==W.toList)=false:=z7r e2;clear h hS hv e1 e2;go_enter Tryz.func103,Tryz.ntmps103;go_wp2_with (go_at_call 31;go_must (((with_reducible refine K.out.mono ?_));rintro e w1 ⟨A1,c1,rfl,hb1,hr1⟩;have HB1:=zz hb1;clear hb1 hr1));go_ret;exact⟨by rw[HV.out];rfl,HB1.out.trans ((bR.alloc nR _).mono HB1.out.size)⟩
 ·have HV:Hid (v=false):=zz (by rw[hv];exact decide_eq_false fun e=>e1 e.1)
  generalize t.kind=x at K e1;have b1:(x==kd)=false:=by simpa using e1
  clear h hS hv e1;go_enter Tryz.func103,Tryz.ntmps103;go_wp2_with (go_at_call 31;go_must (((with_reducible refine K.out.mono ?_));rintro e w1 ⟨A1,c1,rfl,hb1,hr1⟩;have HB1:=zz hb1;clear hb1 hr1));go_ret;exact⟨by rw[HV.out];rfl,HB1.out.trans ((bR.alloc nR _).mono HB1.out.size)⟩
abbrev StepS (b:Nat) (w:World) (A:OA) (n c:Nat) (l:List Tok) (k o:Nat) (w':World):Prop:=w.grownBy w' (some b)∧RdS b w' A n c l k o
theorem z16 {l:List Tok} {kd:Int} {s:Bs} {k o:Nat} (hk:kd≠0) (h:isO l kd s k o=true):o=0∧isT l kd s k=true:=by
 by_cases ho:o=0
 ·subst ho;exact⟨rfl,h⟩
 ·rw[y36 l hk s k ho] at h;cases h
theorem z66 (kd:Int) (hkd:kd≠0) (W:BA) (b:Nat) (w:World) (A:OA) (n c:Nat) (l:List Tok) (k o:Nat) (h:RdS b w A n c l k o):
  Cz 61 #[pP b,kd,W] w fun e w'=>e= .returned (.bool (isO l kd W.data.toList k o))∧StepS b w A n c l (if isO l kd W.data.toList k o=true then k+1 else k) o w':=by
 have K:=zz (z8a kd W b w A n c l k o h);have H:=zz h;have hl:=h.len;have hle:=h.le
 cases hv:isO l kd W.data.toList k o with
 | true=>
   have hk:=z1q (z16 hkd hv).2 hkd;have HK:Hid (k+1≤n):=zz (by omega);have hk2:k≤1000000:=by omega
   rw[hv] at K;clear h hv hkd hk hl hle;go_enter Tryz.func61,Tryz.ntmps61;go_wp2_with (go_at_call 103;go_must (((with_reducible refine K.out.mono ?_));rintro e w1 ⟨rfl,hb1⟩;have HB1:=zz hb1;have h1:=H.out.low hb1;have H1:=zz h1;obtain⟨c0,c1,c2,f1,f2,_,_,_,_,_⟩:=h1;clear hb1));go_ret;exact⟨rfl,z0n (z0g HB1.out) (z01 _ _ _ _),H1.out.place (k+1) ((k:Int)+1) (by omega) HK.out⟩
 | false=>
   rw[hv] at K;clear h hv hkd hl hle;go_enter Tryz.func61,Tryz.ntmps61;go_wp2_with (go_at_call 103;go_must (((with_reducible refine K.out.mono ?_));rintro e w1 ⟨rfl,hb1⟩;have HB1:=zz hb1;clear hb1));go_ret;exact⟨rfl,z0g HB1.out,H.out.low HB1.out⟩
theorem StepS.trans {b:Nat} {w w1 w2:World} {A:OA} {n c:Nat} {l:List Tok} {k o k' o':Nat} (h:StepS b w A n c l k o w1) (h':StepS b w1 A n c l k' o' w2):StepS b w A n c l k' o' w2:=⟨z0n h.1 h'.1,h'.2⟩
theorem y96 (kd:Int) (hkd:kd≠0) (W:BA) (b:Nat) (w:World) (A:OA) (n c:Nat) (l:List Tok) (k o:Nat) (h:RdS b w A n c l k o):
  Cz 100 #[pP b,kd,W] w fun e w'=>e= .returned (.tuple #[])∧StepS b w A n c l (gate o k (needF l kd W.data.toList)).at (gate o k (needF l kd W.data.toList)).err w':=by
 have K:=zz (z66 kd hkd W b w A n c l k o h)
 cases hv:isO l kd W.data.toList k o with
 | true=>
   obtain⟨h1,h2⟩:=z16 hkd hv;have e1:gate o k (needF l kd W.data.toList)= .ok () (k+1):=by rw[h1,z0f];unfold needF;rw[if_pos h2]
   rw[e1];show Calls _ _ _ _ fun e w'=>e= .returned (.tuple #[])∧StepS b w A n c l (k+1) 0 w'
   rw[hv,if_pos rfl,h1] at K;clear h hv h1 h2 e1;go_enter Tryz.func100,Tryz.ntmps100;go_wp2_with (go_at_call 61;go_must (((with_reducible refine K.out.mono ?_));rintro e w1 ⟨rfl,hb1⟩;have HB1:=zz hb1;clear hb1))
   go_end0
   exact⟨rfl,HB1.out⟩
 | false=>
   have e1:(gate o k (needF l kd W.data.toList)).at=k∧(gate o k (needF l kd W.data.toList)).err=if o=0 then 1 else o:=by
    rcases h.oks with rfl | ho
    ·rw[z0f]
     unfold needF;rw[if_neg (by rw[←z1v,hv];decide)];exact⟨rfl,rfl⟩
    ·rw[if_neg (by omega)];exact(z09 ho).symm
   rw[e1.1,e1.2];rw[hv,if_neg (by decide)] at K;have KR:Hid (∀ w',RdS b w' A n c l k o→Cz 17 #[pP b,iI 1] w' fun e w2=>e= .returned (.tuple #[])∧RdS b w2 A n c l k (if o=0 then 1 else o)∧w'.grownBy w2 (some b)):=zz fun w' h'=>z18 1 (.inl rfl) b w' A n c l k o h'
   clear h hv e1;generalize (if o=0 then 1 else o)=o2 at KR ⊢;go_enter Tryz.func100,Tryz.ntmps100;go_wp2_with (first | (go_at_call 61;go_must (((with_reducible refine K.out.mono ?_));rintro e w1 ⟨rfl,hb1⟩;have HB1:=zz hb1;clear hb1)) | (go_at_call 17;go_must ((with_reducible refine(KR.out _ HB1.out.2).mono ?_);rintro e w2 ⟨rfl,hr2,hg2⟩;have HB2:=zz (And.intro hg2 hr2);clear hr2 hg2)))
   go_end0
   exact⟨rfl,HB1.out.trans HB2.out⟩
structure Cx (b:Nat) (w W:World) (A:OA) (n c:Nat) (l:List Tok) (k o:Nat) (bs:List (Nat × List Value)):Prop where
 lt:b<w.heap.size
 rd:RdS b W A n c l k o
 gr:w.grownBy W (some b)
 bx:∀ x∈bs,w.heap.size≤x.1∧0<x.2.length∧BoxL W x.1 x.2
 ap:bs.Pairwise fun x y=>y.1<x.1
section
variable {b:Nat} {w W W':World} {A:OA} {n c:Nat} {l:List Tok} {k o k' o':Nat} {bs:List (Nat × List Value)}
theorem Cx.start (h:RdS b w A n c l k o):Cx b w w A n c l k o []:=⟨h.lt,h,z0g bR,by simp,List.Pairwise.nil⟩
theorem Cx.alloc (h:Cx b w W A n c l k o bs) (T:TypeId) (vs:List Value) (hv:0<vs.length):Cx b w (W.alloc (.cells vs.toArray T)) A n c l k o ((W.heap.size,vs)::bs):=by
 have hb:Below W.heap.size W (W.alloc (.cells vs.toArray T)):=bR.alloc nR _;refine⟨h.lt,h.rd.low hb,z0n h.gr (z0g hb),fun x hx=>?_,List.Pairwise.cons (fun x hx=>(h.bx x hx).2.2.lt (h.bx x hx).2.1) h.ap⟩
 rcases List.mem_cons.1 hx with rfl | hx
 ·exact⟨h.gr.size,hv,BoxL.new _ _ _⟩
 ·obtain⟨h1,h2,h3⟩:=h.bx x hx
  exact⟨h1,h2,h3.low h2 hb⟩
theorem Cx.call (h:Cx b w W A n c l k o bs) (hs:StepS b W A n c l k' o' W'):Cx b w W' A n c l k' o' bs:=
 ⟨h.lt,hs.2,z0n h.gr hs.1,fun x hx=>by
  obtain⟨h1,h2,h3⟩:=h.bx x hx;exact⟨h1,h2,h3.grown h2 hs.1 (by have:=h.lt;omega)⟩,h.ap⟩
theorem Cx.below (h:Cx b w W A n c l k o bs) (hb:Below W.heap.size W W'):Cx b w W' A n c l k o bs:=h.call ⟨z0g hb,h.rd.low hb⟩
theorem Cx.put (h:Cx b w W A n c l k o bs) (i:Nat) (q:Nat) (vs:List Value) (hi:bs[i]?=some (q,vs)) (j:Nat) (hj:j<vs.length) (u:Value):Cx b w (W.setCell ⟨q,j,none⟩ u) A n c l k o (bs.set i (q,vs.set j u)):=by
 have hm:=List.mem_of_getElem? hi;obtain⟨q1,q2,q3⟩:=h.bx _ hm;dsimp only at q1 q2 q3;have hlt:=h.lt;have hil:=(List.getElem?_eq_some_iff.1 hi).1;have hei:=(List.getElem?_eq_some_iff.1 hi).2;have ap:=h.ap;refine⟨h.lt,h.rd.other (a:=⟨q,j,none⟩) (by show b<q;omega) _,z2c h.gr q1 _ _,fun x hx=>?_,?_⟩
 ·obtain⟨m,hm,e⟩:=List.getElem_of_mem hx
  by_cases c:i=m
  ·subst c
   rw[List.getElem_set_self] at e;subst e;exact⟨q1,by simpa using q2,q3.set j hj u⟩
  ·rw[List.getElem_set_ne c] at e
   rw[List.length_set] at hm;obtain⟨h1,h2,h3⟩:=h.bx x (e ▸ List.getElem_mem hm);refine⟨h1,h2,h3.other (a:=⟨q,j,none⟩) ?_ _⟩;show q≠x.1;rw[List.pairwise_iff_getElem] at ap
   rcases Nat.lt_or_gt_of_ne c with c | c
   ·have:=ap i m hil hm c
    rw[hei,e] at this;dsimp only at this;omega
   ·have:=ap m i hm hil c
    rw[hei,e] at this;dsimp only at this;omega
 ·rw[List.pairwise_iff_getElem] at ap ⊢
  intro i1 i2 h1 h2 h12;rw[List.length_set] at h1 h2;have:=ap i1 i2 h1 h2 h12
  have key:∀ m (hm:m<bs.length) (hm':m<(bs.set i (q,vs.set j u)).length),((bs.set i (q,vs.set j u))[m]).1=(bs[m]).1:=by
   intro m hm hm';by_cases c:i=m
   ·subst c;rw[List.getElem_set_self,hei]
   ·rw[List.getElem_set_ne c]
  rw[key _ h1 _,key _ h2 _];exact this
theorem Cx.place (h:Cx b w W A n c l k o bs) (j:Nat) (z:Int) (hz:z=j) (hj:j≤n):Cx b w (W.setCell ⟨b,1,none⟩ (.int .i64 z)) A n c l j o bs:=
 h.call ⟨z01 _ _ _ _,h.rd.place j z hz hj⟩
theorem Cx.put5 (h:Cx b w W A n c l k o bs) (i q:Nat) (u0 u1 u2 u3 u4:Value) (hi:bs[i]?=some (q,[u0,u1,u2,u3,u4])) (v0 v1 v2 v3 v4:Value):Cx b w (((((W.setCell ⟨q,0,none⟩ v0).setCell ⟨q,1,none⟩ v1).setCell ⟨q,2,none⟩ v2).setCell ⟨q,3,none⟩ v3).setCell ⟨q,4,none⟩ v4) A n c l k o (bs.set i (q,[v0,v1,v2,v3,v4])):=by
 have hl:=(List.getElem?_eq_some_iff.1 hi).1;have e:∀ x:Nat × List Value,(bs.set i x)[i]?=some x:=fun x=>List.getElem?_set_self hl
 have h0:=h.put i q _ hi 0 (by simp) v0;have h1:=h0.put i q _ (e _) 1 (by simp) v1;have h2:=h1.put i q _ (by rw[List.set_set];exact e _) 2 (by simp) v2;have h3:=h2.put i q _ (by rw[List.set_set,List.set_set];exact e _) 3 (by simp) v3;have h4:=h3.put i q _ (by rw[List.set_set,List.set_set,List.set_set];exact e _) 4 (by simp) v4;rw[List.set_set,List.set_set,List.set_set,List.set_set] at h4;exact h4
theorem Cx.drew (h:Cx b w W A n c l k o bs):Cx b w W.drew A n c l k o bs:=h.below (bR.drew)
theorem Cx.step (h:Cx b w W A n c l k o bs):StepS b w A n c l k o W:=⟨h.gr,h.rd⟩
theorem Cx.box (h:Cx b w W A n c l k o bs) (i q:Nat) (vs:List Value) (hi:bs[i]?=some (q,vs)):BoxL W q vs:=(h.bx _ (List.mem_of_getElem? hi)).2.2
theorem Cx.has (h:Cx b w W A n c l k o bs) (i q:Nat) (vs:List Value) (hi:bs[i]?=some (q,vs)):w.heap.size≤q∧q<W.heap.size:=⟨(h.bx _ (List.mem_of_getElem? hi)).1,(h.box i q vs hi).lt (h.bx _ (List.mem_of_getElem? hi)).2.1⟩
theorem Cx.one {q:Nat} {vs:List Value} (h:Cx b w W A n c l k o ((q,vs)::bs)):b<w.heap.size∧w.heap.size≤q∧q<W.heap.size:=⟨h.lt,h.has 0 q vs rfl⟩
theorem Cx.two {q q':Nat} {vs vs':List Value} (h:Cx b w W A n c l k o ((q,vs)::(q',vs')::bs)):b<w.heap.size∧w.heap.size≤q'∧q'<q∧q<W.heap.size:=
 ⟨h.lt,(h.has 1 q' vs' rfl).1,(List.pairwise_cons.1 h.ap).1 (q',vs') (by simp),(h.has 0 q vs rfl).2⟩
theorem Cx.three {q q' q2:Nat} {vs vs' vs2:List Value} (h:Cx b w W A n c l k o ((q,vs)::(q',vs')::(q2,vs2)::bs)):b<w.heap.size∧w.heap.size≤q2∧q2<q'∧q'<q∧q<W.heap.size:=
 ⟨h.lt,(h.has 2 q2 vs2 rfl).1,(List.pairwise_cons.1 (List.pairwise_cons.1 h.ap).2).1 (q2,vs2) (by simp),(List.pairwise_cons.1 h.ap).1 (q',vs') (by simp),(h.has 0 q vs rfl).2⟩
end
theorem Rd.back {B:Nat} {w w':World} {A:OA} {n:Nat} {ps:List Pt} (h:Rd B w' A n ps) (hb:Below B w w'):Rd B w A n ps:=
 ⟨h.1,fun hn=>by obtain⟨ad,e,hr⟩:=h.2 hn;exact⟨ad,e,hr.1,fun j u hu=>(hb.cell (by rw[z2t];exact hr.1)).symm.trans (hr.2 j u hu)⟩⟩
theorem Cx.low {b:Nat} {w W:World} {A:OA} {n c:Nat} {l:List Tok} {k o:Nat} {bs:List (Nat × List Value)} (h:Cx b w W A n c l k o bs):Below b w W:=z1x h.gr nR (Nat.le_of_lt h.lt)
theorem tokF0 (k n pl:Int) (S:BA) (A:OA) (m c:Nat) (w:World):(Instr.field 53 (.agg #[k,S,n,.slice A m c,pl]) 0).run Tryz.prog w= .ok (.int .i64 k) w:=by kernel_rfl
theorem tokF1 (k n pl:Int) (S:BA) (A:OA) (m c:Nat) (w:World):(Instr.field 53 (.agg #[k,S,n,.slice A m c,pl]) 1).run Tryz.prog w= .ok (.string S) w:=by kernel_rfl
theorem tokF2 (k n pl:Int) (S:BA) (A:OA) (m c:Nat) (w:World):(Instr.field 53 (.agg #[k,S,n,.slice A m c,pl]) 2).run Tryz.prog w= .ok (.int .i64 n) w:=by kernel_rfl
theorem tokF3 (k n pl:Int) (S:BA) (A:OA) (m c:Nat) (w:World):(Instr.field 53 (.agg #[k,S,n,.slice A m c,pl]) 3).run Tryz.prog w= .ok (.slice A m c) w:=by kernel_rfl
theorem tokF4 (k n pl:Int) (S:BA) (A:OA) (m c:Nat) (w:World):(Instr.field 53 (.agg #[k,S,n,.slice A m c,pl]) 4).run Tryz.prog w= .ok (.int .i64 pl) w:=by kernel_rfl
theorem BoxL.all2 {w:World} {c:Nat} {v0 v1:Value} (h:BoxL w c [v0,v1]):w.cell? ⟨c,0,none⟩=some v0∧w.cell? ⟨c,1,none⟩=some v1:=
 ⟨h.at_ 0 _ rfl,h.at_ 1 _ rfl⟩
theorem BoxL.fre2 {w:World} {c:Nat} {v0 v1:Value} (h:BoxL w c [v0,v1]):w.frozen? ⟨c,0,none⟩=false∧w.frozen? ⟨c,1,none⟩=false:=
 ⟨h.fr 0 (by simp),h.fr 1 (by simp)⟩
theorem BoxL.all5 {w:World} {c:Nat} {v0 v1 v2 v3 v4:Value} (h:BoxL w c [v0,v1,v2,v3,v4]):w.cell? ⟨c,0,none⟩=some v0∧w.cell? ⟨c,1,none⟩=some v1∧w.cell? ⟨c,2,none⟩=some v2∧w.cell? ⟨c,3,none⟩=some v3∧w.cell? ⟨c,4,none⟩=some v4:=
 ⟨h.at_ 0 _ rfl,h.at_ 1 _ rfl,h.at_ 2 _ rfl,h.at_ 3 _ rfl,h.at_ 4 _ rfl⟩
theorem BoxL.fre5 {w:World} {c:Nat} {v0 v1 v2 v3 v4:Value} (h:BoxL w c [v0,v1,v2,v3,v4]):w.frozen? ⟨c,0,none⟩=false∧w.frozen? ⟨c,1,none⟩=false∧w.frozen? ⟨c,2,none⟩=false∧w.frozen? ⟨c,3,none⟩=false∧w.frozen? ⟨c,4,none⟩=false:=
 ⟨h.fr 0 (by simp),h.fr 1 (by simp),h.fr 2 (by simp),h.fr 3 (by simp),h.fr 4 (by simp)⟩
theorem BoxL.all6 {w:World} {c:Nat} {v0 v1 v2 v3 v4 v5:Value} (h:BoxL w c [v0,v1,v2,v3,v4,v5]):w.cell? ⟨c,0,none⟩=some v0∧w.cell? ⟨c,1,none⟩=some v1∧w.cell? ⟨c,2,none⟩=some v2∧w.cell? ⟨c,3,none⟩=some v3∧w.cell? ⟨c,4,none⟩=some v4∧w.cell? ⟨c,5,none⟩=some v5:=
 ⟨h.at_ 0 _ rfl,h.at_ 1 _ rfl,h.at_ 2 _ rfl,h.at_ 3 _ rfl,h.at_ 4 _ rfl,h.at_ 5 _ rfl⟩
theorem BoxL.fre6 {w:World} {c:Nat} {v0 v1 v2 v3 v4 v5:Value} (h:BoxL w c [v0,v1,v2,v3,v4,v5]):w.frozen? ⟨c,0,none⟩=false∧w.frozen? ⟨c,1,none⟩=false∧w.frozen? ⟨c,2,none⟩=false∧w.frozen? ⟨c,3,none⟩=false∧w.frozen? ⟨c,4,none⟩=false∧w.frozen? ⟨c,5,none⟩=false:=
 ⟨h.fr 0 (by simp),h.fr 1 (by simp),h.fr 2 (by simp),h.fr 3 (by simp),h.fr 4 (by simp),h.fr 5 (by simp)⟩
theorem BoxL.all13 {w:World} {c:Nat} {v0 v1 v2 v3 v4 v5 v6 v7 v8 v9 v10 v11 v12:Value} (h:BoxL w c [v0,v1,v2,v3,v4,v5,v6,v7,v8,v9,v10,v11,v12]):w.cell? ⟨c,0,none⟩=some v0∧w.cell? ⟨c,1,none⟩=some v1∧w.cell? ⟨c,2,none⟩=some v2∧w.cell? ⟨c,3,none⟩=some v3∧w.cell? ⟨c,4,none⟩=some v4∧w.cell? ⟨c,5,none⟩=some v5∧w.cell? ⟨c,6,none⟩=some v6∧w.cell? ⟨c,7,none⟩=some v7∧w.cell? ⟨c,8,none⟩=some v8∧w.cell? ⟨c,9,none⟩=some v9∧w.cell? ⟨c,10,none⟩=some v10∧w.cell? ⟨c,11,none⟩=some v11∧w.cell? ⟨c,12,none⟩=some v12:=
 ⟨h.at_ 0 _ rfl,h.at_ 1 _ rfl,h.at_ 2 _ rfl,h.at_ 3 _ rfl,h.at_ 4 _ rfl,h.at_ 5 _ rfl,h.at_ 6 _ rfl,h.at_ 7 _ rfl,h.at_ 8 _ rfl,h.at_ 9 _ rfl,h.at_ 10 _ rfl,h.at_ 11 _ rfl,h.at_ 12 _ rfl⟩
theorem BoxL.fre13 {w:World} {c:Nat} {v0 v1 v2 v3 v4 v5 v6 v7 v8 v9 v10 v11 v12:Value} (h:BoxL w c [v0,v1,v2,v3,v4,v5,v6,v7,v8,v9,v10,v11,v12]):w.frozen? ⟨c,0,none⟩=false∧w.frozen? ⟨c,1,none⟩=false∧w.frozen? ⟨c,2,none⟩=false∧w.frozen? ⟨c,3,none⟩=false∧w.frozen? ⟨c,4,none⟩=false∧w.frozen? ⟨c,5,none⟩=false∧w.frozen? ⟨c,6,none⟩=false∧w.frozen? ⟨c,7,none⟩=false∧w.frozen? ⟨c,8,none⟩=false∧w.frozen? ⟨c,9,none⟩=false∧w.frozen? ⟨c,10,none⟩=false∧w.frozen? ⟨c,11,none⟩=false∧w.frozen? ⟨c,12,none⟩=false:=
 ⟨h.fr 0 (by simp),h.fr 1 (by simp),h.fr 2 (by simp),h.fr 3 (by simp),h.fr 4 (by simp),h.fr 5 (by simp),h.fr 6 (by simp),h.fr 7 (by simp),h.fr 8 (by simp),h.fr 9 (by simp),h.fr 10 (by simp),h.fr 11 (by simp),h.fr 12 (by simp)⟩
end
abbrev zeroT:List Value:=[oZ,oS,oZ,(),oZ]
def TokS (b:Nat) (w:World) (A:OA) (n c:Nat) (l:List Tok) (R:Rz Tok) (e:Ending) (w':World):Prop:=
 ∃ t A' c',e= .returned (.agg #[t.kind,t.word,t.n,.slice A' t.parts.length c',t.pl])∧StepS b w A n c l R.at R.err w'∧Rd b w' A' t.parts.length t.parts∧∀ y j,R= .ok y j→y=t
theorem z40 (kd:Int) (hkd:kd≠0) (b:Nat) (w:World) (A:OA) (n c:Nat) (l:List Tok) (k o:Nat) (h:RdS b w A n c l k o):
  Cz 58 #[pP b,kd] w (TokS b w A n c l (gate o k (kindF l kd))):=by
 have K:Hid (∀ w',RdS b w' A n c l k o→Cz 31 #[pP b] w' (NextS b w' (nxo l k o))):=zz fun w' h'=>z4v b w' A n c l k o h'
 have H:=zz (Cx.start h);have hle:=h.le;have hl:=h.len;by_cases e1:(nxo l k o).kind=kd
 ·have ho:o=0:=by
   by_cases ho:o=0
   ·exact ho
   ·unfold nxo at e1;rw[if_neg ho] at e1;exact absurd e1.symm hkd
  subst ho;have eR:gate 0 k (kindF l kd)= .ok (nxo l k 0) (k+1):=by rw[z0f];exact if_pos e1
  have hk:k<l.length:=z17 (by show (nxo l k 0).kind≠0;rw[e1];exact hkd);have HK:Hid (k+1≤n):=zz (by omega);have hk2:k≤1000000:=by omega
  rw[eR];generalize nxo l k 0=t at K e1 ⊢;unfold NextS at K
  suffices hs:Cz 58 #[pP b,kd] w fun e w'=>∃ A' c',e= .returned (.agg #[t.kind,t.word,t.n,.slice A' t.parts.length c',t.pl])∧StepS b w A n c l (k+1) 0 w'∧Rd b w' A' t.parts.length t.parts from
   hs.mono fun e w' ⟨A',c',h1,h2,h3⟩=>⟨t,A',c',h1,h2,h3,fun y j hy=>by injection hy with hy;exact hy.symm⟩
  obtain⟨S,hS⟩:∃ S:BA,S=⟨t.word.toArray⟩:=⟨_,rfl⟩;rw[←hS] at K ⊢;rw[e1] at K ⊢;have b1:(kd != kd)=false:=by simp
  clear h hkd hl hle hk eR e1 hS;go_enter Tryz.func58,Tryz.ntmps58;go_wp2_with (go_at_call 31;go_must ((with_reducible refine(K.out _ (H.out.rd.box _)).mono ?_);rintro e w1 ⟨A1,c1,rfl,hb1,hr1⟩;have HC:=zz (((H.out.alloc 53 zeroT (by simp)).below hb1).alloc 53 [kd,S,t.n,.slice A1 t.parts.length c1,t.pl] (by simp));have HR1:=zz (hr1.back (H.out.alloc 53 zeroT (by simp)).low);obtain⟨d0,d1,d2,d3,d4,_,_,_,_,_⟩:=HC.out.rd;obtain⟨q0,q1,q2,q3⟩:=HC.out.two;obtain⟨g0,g1,g2,g3,g4⟩:=(HC.out.box 1 w.heap.size zeroT rfl).all5;obtain⟨j0,j1,j2,j3,j4⟩:=(HC.out.box 1 w.heap.size zeroT rfl).fre5;clear hb1 hr1));have HE:=(HC.out.place (k+1) ((k:Int)+1) (by omega) HK.out).put5 1 w.heap.size _ _ _ _ _ rfl (.int .i64 kd) (.string S) (.int .i64 t.n) (.slice A1 t.parts.length c1) (.int .i64 t.pl);obtain⟨r0,r1,r2,r3,r4⟩:=(HE.box 1 w.heap.size _ rfl).all5;refine bodyPost_ret (v:= .agg #[kd,S,t.n,.slice A1 t.parts.length c1,t.pl]) (by simp[results,Tryz.results58,go_sem,r0,r1,r2,r3,r4]) rfl ⟨A1,c1,rfl,?_⟩;exact⟨HE.step,HR1.out.keep HE.low⟩
 ·have eR:(gate o k (kindF l kd)).at=k∧(gate o k (kindF l kd)).err=(if o=0 then 1 else o)∧∀ y j,gate o k (kindF l kd)≠ .ok y j:=by
   rcases h.oks with rfl | ho
   ·have:gate 0 k (kindF l kd)= .bad k false:=by rw[z0f];exact if_neg e1
    rw[this];exact⟨rfl,rfl,fun _ _ e=>by cases e⟩
   ·rw[if_neg (by omega)];exact⟨(z09 ho).2,(z09 ho).1,fun _ _=>z4w (by omega)⟩
  unfold TokS;rw[eR.1,eR.2.1]
  suffices hs:Cz 58 #[pP b,kd] w fun e w'=>e= .returned (.agg #[oZ,oS,oZ,(),oZ])∧StepS b w A n c l k (if o=0 then 1 else o) w' from
   hs.mono fun e w' ⟨h1,h2⟩=>⟨tokZ,none,0,h1,h2,⟨rfl,fun h=>absurd h (by simp[tokZ])⟩,fun y j hy=>absurd hy (eR.2.2 y j)⟩
  have KR:Hid (∀ w',RdS b w' A n c l k o→Cz 17 #[pP b,iI 1] w' fun e w2=>e= .returned (.tuple #[])∧RdS b w2 A n c l k (if o=0 then 1 else o)∧w'.grownBy w2 (some b)):=zz fun w' h'=>z18 1 (.inl rfl) b w' A n c l k o h'
  generalize (if o=0 then 1 else o)=o2 at KR ⊢;generalize nxo l k o=t at K e1;unfold NextS at K;generalize t.kind=x at K e1;have b1:(x != kd)=true:=by simpa using e1
  clear h hkd hl hle eR e1;go_enter Tryz.func58,Tryz.ntmps58;go_wp2_with (first | (go_at_call 31;go_must ((with_reducible refine(K.out _ (H.out.rd.box _)).mono ?_);rintro e w1 ⟨A1,c1,rfl,hb1,hr1⟩;have HC:=zz (((H.out.alloc 53 zeroT (by simp)).below hb1).alloc 53 [x,t.word,t.n,.slice A1 t.parts.length c1,t.pl] (by simp));clear hb1 hr1)) | (go_at_call 17;go_must ((with_reducible refine(KR.out _ HC.out.rd).mono ?_);rintro e w2 ⟨rfl,hr2,hg2⟩;have HD:=zz (HC.out.call ⟨hg2,hr2⟩);obtain⟨q0,q1,q2,q3⟩:=HD.out.two;obtain⟨g0,g1,g2,g3,g4⟩:=(HD.out.box 1 w.heap.size zeroT rfl).all5;obtain⟨j0,j1,j2,j3,j4⟩:=(HD.out.box 1 w.heap.size zeroT rfl).fre5;clear hr2 hg2)));have HE:=HD.out.put5 1 w.heap.size _ _ _ _ _ rfl (.int .i64 0) oS oZ () oZ;obtain⟨r0,r1,r2,r3,r4⟩:=(HE.box 1 w.heap.size _ rfl).all5;exact bodyPost_ret (v:= .agg #[oZ,oS,oZ,(),oZ]) (by simp[results,Tryz.results58,go_sem,r0,r1,r2,r3,r4]) rfl ⟨rfl,HE.step⟩
theorem z3g {α β:Type} (R:Rz α) (g:α→β):(R.then fun x j=> .ok (g x) j).at=R.at∧(R.then fun x j=> .ok (g x) j).err=R.err∧∀ x,(∀ y j,R= .ok y j→y=x)→∀ y j,(R.then fun x j=> .ok (g x) j)= .ok y j→y=g x:=by
 cases R with
 | ok x j=>exact⟨rfl,rfl,fun z hz y i h=>by have:=hz x j rfl;subst this;injection h with h;exact h.symm⟩
 | bad j d=>exact⟨rfl,rfl,fun z hz y i h=>by cases h⟩
def NameS (b:Nat) (w:World) (A:OA) (n c:Nat) (l:List Tok) (R:Rz Bs) (e:Ending) (w':World):Prop:=∃ s:Bs,e= .returned (.string ⟨s.toArray⟩)∧StepS b w A n c l R.at R.err w'∧∀ y j,R= .ok y j→y=s
theorem y79 (b:Nat) (w:World) (A:OA) (n c:Nat) (l:List Tok) (k o:Nat) (h:RdS b w A n c l k o):
  Cz 56 #[pP b] w (NameS b w A n c l (gate o k (nameF l))):=by
 have K:Hid (∀ w',RdS b w' A n c l k o→Cz 31 #[pP b] w' (NextS b w' (nxo l k o))):=zz fun w' h'=>z4v b w' A n c l k o h'
 have H:=zz (Cx.start h);have KR:Hid (∀ w',RdS b w' A n c l k o→Cz 17 #[pP b,iI 1] w' fun e w2=>e= .returned (.tuple #[])∧RdS b w2 A n c l k (if o=0 then 1 else o)∧w'.grownBy w2 (some b)):=zz fun w' h'=>z18 1 (.inl rfl) b w' A n c l k o h'
 have hw:(nxo l k o).word.length≤100000:=by
  unfold nxo
  split
  ·by_cases c:k<l.length
   ·rw[z11 (List.getElem?_eq_getElem c)];exact(h.fit.fit _ (List.getElem_mem c)).word
   ·rw[z5z c];decide
  ·decide
 have KN:Hid (∀ w',Cz 99 #[.string ⟨(nxo l k o).word.toArray⟩] w' fun e w2=>e= .returned (.bool (isName (nxo l k o).word))∧w'=w2):=zz fun w'=>by
  have:=z5l ⟨(nxo l k o).word.toArray⟩ (by simp[ByteArray.size];omega) w';simpa using this
 have KK:∀ o,Hid (∀ w',RdS b w' A n c l k o→Cz 58 #[pP b,iI 1] w' (TokS b w' A n c l (gate o k (kindF l 1)))):=fun o=>zz fun w' h'=>z40 1 (by decide) b w' A n c l k o h'
 cases hn:isName (nxo l k o).word with
 | true=>
   have ho:o=0:=by
    by_cases ho:o=0
    ·exact ho
    ·unfold nxo at hn;rw[if_neg ho] at hn;exact absurd hn (by decide)
   subst ho
   have eR:gate 0 k (nameF l)=(kindF l 1 k).then fun t j=> .ok t.word j:=by
    rw[z0f];unfold nameF kindF;by_cases c:(nxz l k).kind=1
    ·rw[if_pos ⟨c,hn⟩,if_pos c];rfl
    ·rw[if_neg (fun e=>c e.1),if_neg c];rfl
   have KK:=KK 0;rw[z0f] at KK;rw[eR];rw[hn] at KN;clear KR eR hn h hw;unfold NameS;rw[(z3g (kindF l 1 k) (fun t=>t.word)).1,(z3g (kindF l 1 k) (fun t=>t.word)).2.1]
   suffices hs:Cz 56 #[pP b] w fun e w'=>∃ t:Tok,e= .returned (.string ⟨t.word.toArray⟩)∧StepS b w A n c l (kindF l 1 k).at (kindF l 1 k).err w'∧∀ y j,kindF l 1 k= .ok y j→y=t from
    hs.mono fun e w' ⟨t,h1,h2,h3⟩=>⟨t.word,h1,h2,(z3g (kindF l 1 k) (fun t=>t.word)).2.2 t h3⟩
   generalize kindF l 1 k=R at KK ⊢;generalize nxo l k 0=t0 at K KN;unfold NextS at K;unfold TokS at KK;have tf:=tokF1;go_enter Tryz.func56,Tryz.ntmps56;go_wp2_with (first | (go_at_call 31;go_must ((with_reducible refine(K.out _ H.out.rd).mono ?_);rintro e w1 ⟨A1,c1,rfl,hb1,hr1⟩;have HC:=zz (H.out.below hb1);clear hb1 hr1)) | (go_at_call 99;go_must ((with_reducible refine(KN.out _).mono ?_);rintro e w2 ⟨rfl,rfl⟩)) | (go_at_call 58;go_must ((with_reducible refine(KK.out _ HC.out.rd).mono ?_);rintro e w2 ⟨t,A2,c2,rfl,hs2,hr2,hv2⟩;have HD:=zz (HC.out.call hs2);have HV:=zz hv2;clear hs2 hr2 hv2)));go_ret;exact⟨t,rfl,HD.out.step,HV.out⟩
 | false=>
   have eR:(gate o k (nameF l)).at=k∧(gate o k (nameF l)).err=(if o=0 then 1 else o)∧∀ y j,gate o k (nameF l)≠ .ok y j:=by
    rcases h.oks with rfl | ho
    ·have:gate 0 k (nameF l)= .bad k false:=by
      rw[z0f];exact if_neg (fun e=>by have:=e.2;rw[show (nxz l k).word=(nxo l k 0).word from rfl,hn] at this;cases this)
     rw[this];exact⟨rfl,rfl,fun _ _ e=>by cases e⟩
    ·rw[if_neg (by omega)];exact⟨(z09 ho).2,(z09 ho).1,fun _ _=>z4w (by omega)⟩
   unfold NameS;rw[eR.1,eR.2.1];have ho2:(if o=0 then 1 else o)≠0:=by split <;> omega
   have KK:=KK (if o=0 then 1 else o)
   have eK:(gate (if o=0 then 1 else o) k (kindF l 1)).at=k∧(gate (if o=0 then 1 else o) k (kindF l 1)).err=(if o=0 then 1 else o):=by
    have:=z09 (α:=Tok) (o:=if o=0 then 1 else o) (k:=k) (F:=kindF l 1) (by have:=h.oks;split <;> omega);exact⟨this.2,this.1⟩
   suffices hs:Cz 56 #[pP b] w fun e w'=>∃ t:Tok,e= .returned (.string ⟨t.word.toArray⟩)∧StepS b w A n c l k (if o=0 then 1 else o) w' from
    hs.mono fun e w' ⟨t,h1,h2⟩=>⟨t.word,h1,h2,fun y j hy=>absurd hy (eR.2.2 y j)⟩
   unfold TokS at KK;rw[eK.1,eK.2] at KK;rw[hn] at KN;clear eK eR hn hw h ho2;generalize (if o=0 then 1 else o)=o2 at KR KK ⊢;generalize nxo l k o=t0 at K KN;unfold NextS at K;have tf:=tokF1;go_enter Tryz.func56,Tryz.ntmps56;go_wp2_with (first | (go_at_call 31;go_must ((with_reducible refine(K.out _ H.out.rd).mono ?_);rintro e w1 ⟨A1,c1,rfl,hb1,hr1⟩;have HC:=zz (H.out.below hb1);clear hb1 hr1)) | (go_at_call 99;go_must ((with_reducible refine(KN.out _).mono ?_);rintro e w2 ⟨rfl,rfl⟩)) | (go_at_call 17;go_must ((with_reducible refine(KR.out _ HC.out.rd).mono ?_);rintro e w2 ⟨rfl,hr2,hg2⟩;have HB:=zz (HC.out.call ⟨hg2,hr2⟩);clear hr2 hg2)) | (go_at_call 58;go_must ((with_reducible refine(KK.out _ HB.out.rd).mono ?_);rintro e w3 ⟨t,A2,c2,rfl,hs2,hr2,hv2⟩;have HD:=zz (HB.out.call hs2);clear hs2 hr2 hv2)));go_ret;exact⟨t,rfl,HD.out.step⟩
section
def NumS (b:Nat) (w:World) (A:OA) (n c:Nat) (l:List Tok) (R:Rz Int) (e:Ending) (w':World):Prop:=∃ z:Int,e= .returned (.int .i64 z)∧StepS b w A n c l R.at R.err w'∧∀ y j,R= .ok y j→y=z
section
variable {b:Nat} {A:OA} {n c:Nat} {l:List Tok}
theorem y77 {k kd:Nat} {t:Tok} {j:Nat} (hf:FitL l) (hk:kd≠0) (h:kindF l kd k= .ok t j):FitT t∧okT t=true∧t.kind=kd:=by
 unfold kindF at h
 split at h
 ·rename_i c
  injection h with h _
  subst h;have hk:k<l.length:=z17 (by rw[c];omega);rw[z11 (List.getElem?_eq_getElem hk)] at c ⊢;exact⟨hf.fit _ (List.getElem_mem hk),hf.ok _ (List.getElem_mem hk),c⟩
 ·cases h
theorem y6y {t:Tok} (ho:okT t=true) (hk:t.kind=2):0≤t.n:=by
 unfold okT at ho;rw[if_pos hk] at ho;simp at ho;exact ho.1.2
theorem y42 {z:Int} (h:0≤z∧z≤9223372036854775807):wrap64 (-z)= -z:=by
 exact IntWalk.wrap64_in _ (by omega)
end
abbrev KindC (b:Nat) (A:OA) (n c:Nat) (l:List Tok) (kd:Int) (k o:Nat) (R:Rz Tok):Prop:=Hid (∀ w',RdS b w' A n c l k o→Cz 58 #[pP b,kd] w' fun e w2=>
 ∃ t A' c',e= .returned (.agg #[t.kind,t.word,t.n,.slice A' t.parts.length c',t.pl])∧StepS b w' A n c l R.at R.err w2∧Rd b w2 A' t.parts.length t.parts∧∀ y j,R= .ok y j→y=t)
theorem kindC (b:Nat) (A:OA) (n c:Nat) (l:List Tok) (kd:Int) (k o:Nat) (hkd:kd≠0) {R:Rz Tok} (hR:gate o k (kindF l kd)=R):KindC b A n c l kd k o R:=zz fun w' h'=>by subst hR;exact z40 kd hkd b w' A n c l k o h'
abbrev TakeC (b:Nat) (A:OA) (n c:Nat) (l:List Tok) (kd:Int) (W:BA) (k o:Nat) (v:Bool) (j:Nat):Prop:=Hid (∀ w',RdS b w' A n c l k o→Cz 61 #[pP b,kd,W] w' fun e w2=>e= .returned (.bool v)∧StepS b w' A n c l j o w2)
theorem z4n {b:Nat} {A:OA} {n c:Nat} {l:List Tok} {kd:Int} {W:BA} {k o:Nat} (hkd:kd≠0) (h:isO l kd W.data.toList k o=true):TakeC b A n c l kd W k o true (k+1):=zz fun w' h'=>by
 have:=z66 kd hkd W b w' A n c l k o h';rw[h] at this;exact this
theorem z4o {b:Nat} {A:OA} {n c:Nat} {l:List Tok} {kd:Int} {W:BA} {k o:Nat} (hkd:kd≠0) (h:isO l kd W.data.toList k o=false):TakeC b A n c l kd W k o false k:=zz fun w' h'=>by
 have:=z66 kd hkd W b w' A n c l k o h';rw[h] at this;exact this
theorem x2b (b:Nat) (w:World) (A:OA) (n c:Nat) (l:List Tok) (k:Nat) (h:RdS b w A n c l k 0) (hi:isO l 4 [45] k 0=true):
  Cz 57 #[pP b,iI 3] w (NumS b w A n c l (gate 0 k (numF l 3))):=by
 have KT:=z4n (b:=b) (A:=A) (n:=n) (c:=c) (W:=⟨#[45]⟩) (by decide) hi;have KK:=kindC b A n c l 2 (k+1) 0 (by decide) (z0f _ _);have H:=zz (Cx.start h)
 have eR:gate 0 k (numF l 3)=(kindF l 2 (k+1)).then fun t j=> .ok (-t.n) j:=by
  rw[z0f];unfold numF;rw[if_pos ⟨rfl,hi⟩]
 rw[eR];have hm:=z3g (kindF l 2 (k+1)) (fun t=> -t.n);unfold NumS;rw[hm.1,hm.2.1]
 have HF:Hid (∀ y j,kindF l 2 (k+1)= .ok y j→0≤y.n∧y.n≤9223372036854775807):=zz fun y j hy=>by
  have:=y77 (kd:=2) h.fit (by decide) hy;exact⟨y6y this.2.1 this.2.2,this.1.n.2⟩
 have HM:=zz hm.2.2;generalize kindF l 2 (k+1)=R at KK HM HF ⊢;clear hm eR h hi;have tf:=tokF2;go_enter Tryz.func57,Tryz.ntmps57;go_wp2_with (first | (go_at_call 61;go_must ((with_reducible refine(KT.out _ H.out.rd).mono ?_);rintro e w1 ⟨rfl,hs1⟩;have HC:=zz (H.out.call hs1);clear hs1)) | (go_at_call 58;go_must ((with_reducible refine(KK.out _ HC.out.rd).mono ?_);rintro e w2 ⟨t,A2,c2,rfl,hs2,hr2,hv2⟩;have HD:=zz (HC.out.call hs2);have HV:=zz hv2;clear hs2 hr2 hv2)));go_ret;refine⟨_,rfl,HD.out.step,fun y j hy=>?_⟩;obtain⟨t',i,h1,h2⟩:=Rz.then_ok hy;have:=HV.out t' i h1;subst this;injection h2 with h2
 rw[←h2,y42 (HF.out _ _ h1)]
theorem z78 {b:Nat} {w w':World} {A:OA} {n c:Nat} {l:List Tok} {R:Rz Tok} {t:Tok} (hs:StepS b w A n c l R.at R.err w') (hv:∀ y j,R= .ok y j→y=t):NumS b w A n c l (R.then fun t j=> .ok t.n j) (.returned (.int .i64 t.n)) w':=by
 have hm:=z3g R (fun t=>t.n);exact⟨t.n,rfl,by rw[hm.1,hm.2.1];exact hs,hm.2.2 t hv⟩
theorem y87 (b:Nat) (w:World) (A:OA) (n c:Nat) (l:List Tok) (k o:Nat) (h:RdS b w A n c l k o) (hi:isO l 4 [45] k o=false):
  Cz 57 #[pP b,iI 3] w (NumS b w A n c l (gate o k (numF l 3))):=by
 have KT:=z4o (b:=b) (A:=A) (n:=n) (c:=c) (W:=⟨#[45]⟩) (by decide) hi;have KK:=kindC b A n c l 2 k o (by decide) rfl;have H:=zz (Cx.start h)
 have eR:gate o k (numF l 3)=(gate o k (kindF l 2)).then fun t j=> .ok t.n j:=by
  by_cases ho:o=0
  ·subst ho
   rw[z0f,z0f];unfold numF;rw[if_neg (fun e=>by rw[←z1v,hi] at e;exact absurd e.2 (by decide)),if_neg (fun e=>absurd e.1 (by decide))]
  ·unfold gate;rw[if_neg ho,if_neg ho];rfl
 rw[eR];generalize gate o k (kindF l 2)=R at KK ⊢;clear eR h hi;have tf:=tokF2;go_enter Tryz.func57,Tryz.ntmps57;go_wp2_with (first | (go_at_call 61;go_must ((with_reducible refine(KT.out _ H.out.rd).mono ?_);rintro e w1 ⟨rfl,hs1⟩;have HC:=zz (H.out.call hs1);clear hs1)) | (go_at_call 58;go_must ((with_reducible refine(KK.out _ HC.out.rd).mono ?_);rintro e w2 ⟨t,A2,c2,rfl,hs2,hr2,hv2⟩;have HD:=zz (HC.out.call hs2);have HV:=zz hv2;clear hs2 hr2 hv2)));go_ret;exact z78 HD.out.step HV.out
theorem y6n (b:Nat) (w:World) (A:OA) (n c:Nat) (l:List Tok) (k:Nat) (h:RdS b w A n c l k 0) (hi:isO l 1 [110,101,118,101,114] k 0=true):
  Cz 57 #[pP b,iI 11] w (NumS b w A n c l (gate 0 k (numF l 11))):=by
 have KT:=z4n (b:=b) (A:=A) (n:=n) (c:=c) (W:=⟨#[110,101,118,101,114]⟩) (by decide) hi;have H:=zz (Cx.start h)
 have eR:gate 0 k (numF l 11)= .ok (-1) (k+1):=by
  rw[z0f];unfold numF;rw[if_neg (fun e=>absurd e.1 (by decide)),if_pos ⟨rfl,hi⟩]
 rw[eR];clear eR h hi;go_enter Tryz.func57,Tryz.ntmps57;go_wp2_with (first | (go_at_call 61;go_must ((with_reducible refine(KT.out _ H.out.rd).mono ?_);rintro e w1 ⟨rfl,hs1⟩;have HC:=zz (H.out.call hs1);clear hs1)));go_ret;exact⟨-1,rfl,HC.out.step,fun y j e=>by injection e with e;exact e.symm⟩
theorem y6m (b:Nat) (w:World) (A:OA) (n c:Nat) (l:List Tok) (k o:Nat) (h:RdS b w A n c l k o) (hi:isO l 1 [110,101,118,101,114] k o=false):
  Cz 57 #[pP b,iI 11] w (NumS b w A n c l (gate o k (numF l 11))):=by
 have KT:=z4o (b:=b) (A:=A) (n:=n) (c:=c) (W:=⟨#[110,101,118,101,114]⟩) (by decide) hi;have KK:=kindC b A n c l 2 k o (by decide) rfl;have H:=zz (Cx.start h)
 have eR:gate o k (numF l 11)=(gate o k (kindF l 2)).then fun t j=> .ok t.n j:=by
  by_cases ho:o=0
  ·subst ho
   rw[z0f,z0f];unfold numF;rw[if_neg (fun e=>absurd e.1 (by decide)),if_neg (fun e=>by rw[←z1v,hi] at e;exact absurd e.2 (by decide))]
  ·unfold gate;rw[if_neg ho,if_neg ho];rfl
 rw[eR];generalize gate o k (kindF l 2)=R at KK ⊢;clear eR h hi;have tf:=tokF2;go_enter Tryz.func57,Tryz.ntmps57;go_wp2_with (first | (go_at_call 61;go_must ((with_reducible refine(KT.out _ H.out.rd).mono ?_);rintro e w1 ⟨rfl,hs1⟩;have HC:=zz (H.out.call hs1);clear hs1)) | (go_at_call 58;go_must ((with_reducible refine(KK.out _ HC.out.rd).mono ?_);rintro e w2 ⟨t,A2,c2,rfl,hs2,hr2,hv2⟩;have HD:=zz (HC.out.call hs2);have HV:=zz hv2;clear hs2 hr2 hv2)));go_ret;exact z78 HD.out.step HV.out
theorem z9f (kind:Int) (hk:kind=8∨kind=9) (b:Nat) (w:World) (A:OA) (n c:Nat) (l:List Tok) (k o:Nat) (h:RdS b w A n c l k o):
  Cz 57 #[pP b,kind] w (NumS b w A n c l (gate o k (numF l kind))):=by
 have KK:=kindC b A n c l 2 k o (by decide) rfl;have H:=zz (Cx.start h)
 have eR:gate o k (numF l kind)=(gate o k (kindF l 2)).then fun t j=> .ok t.n j:=by
  by_cases ho:o=0
  ·subst ho
   rw[z0f,z0f];unfold numF;rw[if_neg (fun e=>by omega),if_neg (fun e=>by omega)]
  ·unfold gate;rw[if_neg ho,if_neg ho];rfl
 rw[eR];generalize gate o k (kindF l 2)=R at KK ⊢;clear eR h;have tf:=tokF2;have b3:(kind==3)=false:=by simp;omega
 have b11:(kind==11)=false:=by simp;omega
 clear hk;go_enter Tryz.func57,Tryz.ntmps57;go_wp2_with (first | (go_at_call 58;go_must ((with_reducible refine(KK.out _ H.out.rd).mono ?_);rintro e w2 ⟨t,A2,c2,rfl,hs2,hr2,hv2⟩;have HD:=zz (H.out.call hs2);have HV:=zz hv2;clear hs2 hr2 hv2)));go_ret;exact z78 HD.out.step HV.out
theorem x1r (kind:Int) (hk:kind=3∨kind=8∨kind=9∨kind=11) (b:Nat) (w:World) (A:OA) (n c:Nat) (l:List Tok) (k o:Nat) (h:RdS b w A n c l k o):
  Cz 57 #[pP b,kind] w (NumS b w A n c l (gate o k (numF l kind))):=by
 rcases hk with rfl | hk | hk | rfl
 ·cases hi:isO l 4 [45] k o with
  | true=>
    obtain⟨rfl,_⟩:=z16 (by decide) hi;exact x2b b w A n c l k h hi
  | false=>exact y87 b w A n c l k o h hi
 ·exact z9f kind (.inl hk) b w A n c l k o h
 ·exact z9f kind (.inr hk) b w A n c l k o h
 ·cases hi:isO l 1 [110,101,118,101,114] k o with
  | true=>
    obtain⟨rfl,_⟩:=z16 (by decide) hi;exact y6n b w A n c l k h hi
  | false=>exact y6m b w A n c l k o h hi
end
theorem y5z (A:OA) (n c:Nat) (ps:List Pt) (w:World) (h:Rd w.heap.size w A n ps) (hm:may false ps=true) (hn:n≤1000000) (ht:∀ p∈ps,p.2.length≤1000000):
  Cz 179 #[.slice A n c] w fun e w'=>e= .returned (.tuple #[.string ⟨((plainP ps).getD []).toArray⟩,.bool (plainP ps).isSome])∧Below w.heap.size w w':=by
 have hl:=h.1
 match ps,h,hm,ht,hl with
 | [],h,hm,ht,hl=>
   subst hl;exact y57 A c w
 | [p],h,hm,ht,hl=>
   subst hl;by_cases hp:p.1=[]
   ·have hp2:¬ p.2=[]:=fun e=>by
     obtain⟨p1,p2⟩:=p;dsimp only at hp e;subst hp;subst e;exact absurd hm (by decide)
    have e:plainP [p]=some p.2:=by unfold plainP;exact if_pos hp
    rw[e];have:=y5i A c p ⟨p.2.toArray⟩ rfl w h hp hp2 (by have:=ht p (by simp);simpa[ByteArray.size] using this);exact this
   ·have e:plainP [p]=none:=by unfold plainP;exact if_neg hp
    rw[e];exact x0e A c p w h hp
 | p::q::r,h,hm,ht,hl=>
   exact y6b A n c (by rw[hl];simp) hn w
theorem x5h {l:List Tok} (hf:FitL l) (k o:Nat):((nxo l k o).kind=3∨(nxo l k o).parts=[])∧may false (nxo l k o).parts=true∧(nxo l k o).parts.length≤100000∧∀ p∈(nxo l k o).parts,p.2.length≤100000:=by
 have hz:(tokZ.kind=3∨tokZ.parts=[])∧may false tokZ.parts=true∧tokZ.parts.length≤100000∧∀ p∈tokZ.parts,p.2.length≤100000:=⟨.inr rfl,rfl,by decide,by simp[tokZ]⟩;unfold nxo
 split
 ·by_cases c:k<l.length
  ·rw[z11 (List.getElem?_eq_getElem c)]
   have ho:=hf.ok _ (List.getElem_mem c);have hft:=hf.fit _ (List.getElem_mem c);generalize l[k]=t at ho hft;refine⟨?_,?_,hft.parts,hft.texts⟩
   ·unfold okT at ho
    split at ho
    ·simp at ho;exact .inr ho.2
    ·split at ho
     ·rename_i h3;exact .inl h3
     ·simp at ho;exact .inr ho.2
   ·unfold okT at ho
    split at ho
    ·simp at ho;rw[ho.2];rfl
    ·split at ho
     ·simp at ho;exact ho.2
     ·simp at ho;rw[ho.2];rfl
  ·rw[z5z c];exact hz
 ·exact hz
abbrev NextC (b:Nat) (A:OA) (n c:Nat) (l:List Tok) (k o:Nat) (t:Tok):Prop:=Hid (∀ w',RdS b w' A n c l k o→Cz 31 #[pP b] w' fun e w2=>
 ∃ A' c',e= .returned (.agg #[t.kind,t.word,t.n,.slice A' t.parts.length c',t.pl])∧Below w'.heap.size w' w2∧Rd b w' A' t.parts.length t.parts)
theorem nextC (b:Nat) (A:OA) (n c:Nat) (l:List Tok) (k o:Nat):NextC b A n c l k o (nxo l k o):=zz fun w' h'=>z4v b w' A n c l k o h'
abbrev RefC (b:Nat) (A:OA) (n c:Nat) (l:List Tok) (z:Int) (k o o2:Nat):Prop:=Hid (∀ w',RdS b w' A n c l k o→Cz 17 #[pP b,z] w' fun e w2=>e= .returned (.tuple #[])∧StepS b w' A n c l k o2 w2)
theorem refC1 (b:Nat) (A:OA) (n c:Nat) (l:List Tok) (k o:Nat) {o2:Nat} (h:(if o=0 then 1 else o)=o2):RefC b A n c l 1 k o o2:=zz fun w' h'=>by
 subst h;exact(z18 1 (.inl rfl) b w' A n c l k o h').mono fun e w2 h=>⟨h.1,h.2.2,h.2.1⟩
theorem refC8 (b:Nat) (A:OA) (n c:Nat) (l:List Tok) (k o:Nat) {o2:Nat} (h:(if o=0 then 8 else o)=o2):RefC b A n c l 8 k o o2:=zz fun w' h'=>by
 subst h;exact(z18 8 (.inr rfl) b w' A n c l k o h').mono fun e w2 h=>⟨h.1,h.2.2,h.2.1⟩
theorem y6j (b:Nat) (w:World) (A:OA) (n c:Nat) (l:List Tok) (k o:Nat) (h:RdS b w A n c l k o):
  Cz 157 #[pP b] w (NameS b w A n c l (gate o k (plainF l))):=by
 have K:=nextC b A n c l k o;have H:=zz (Cx.start h);obtain⟨t1,t2,t3,t4⟩:=x5h h.fit k o;have hbl:=h.lt
 have KP:Hid (∀ w' A1 c1,b≤w'.heap.size→Rd b w' A1 (nxo l k o).parts.length (nxo l k o).parts→Cz 179 #[.slice A1 (nxo l k o).parts.length c1] w' fun e w2=>e= .returned (.tuple #[.string ⟨((plainP (nxo l k o).parts).getD []).toArray⟩,.bool (plainP (nxo l k o).parts).isSome])∧Below w'.heap.size w' w2):=zz fun w' A1 c1 hb hr=>
  y5z A1 _ c1 _ w' (hr.up hb) t2 (by omega) (fun p hp=>Nat.le_trans (t4 p hp) (by omega))
 have tf:=tokF3
 cases hp:plainP (nxo l k o).parts with
 | some s=>
   have eR:gate o k (plainF l)=(gate o k (kindF l 3)).then fun _ j=> .ok s j:=by
    by_cases ho:o=0
    ·subst ho
     have hp':plainP (nxz l k).parts=some s:=hp;rw[z0f,z0f];unfold plainF kindF;by_cases c:(nxz l k).kind=3
     ·rw[if_pos c,if_pos c,hp'];rfl
     ·rw[if_neg c,if_neg c];rfl
    ·unfold gate;rw[if_neg ho,if_neg ho];rfl
   rw[eR];rw[hp] at KP;have KK:=kindC b A n c l 3 k o (by decide) rfl;unfold NameS;have hm:=z3g (gate o k (kindF l 3)) (fun _=>s);rw[hm.1,hm.2.1]
   suffices hs:Cz 157 #[pP b] w fun e w'=>e= .returned (.string ⟨s.toArray⟩)∧StepS b w A n c l (gate o k (kindF l 3)).at (gate o k (kindF l 3)).err w' from
    hs.mono fun e w' ⟨h1,h2⟩=>⟨s,h1,h2,fun y j hy=>by obtain⟨_,_,_,h2⟩:=Rz.then_ok hy;injection h2 with h2;exact h2.symm⟩
   generalize gate o k (kindF l 3)=R at KK ⊢;generalize nxo l k o=t at K KP;dsimp only[Option.getD,Option.isSome] at KP;clear hm eR hp t1 t2 t3 t4 h;go_enter Tryz.func157,Tryz.ntmps157;go_wp2_with (first | (go_at_call 31;go_must ((with_reducible refine(K.out _ H.out.rd).mono ?_);rintro e w1 ⟨A1,c1,rfl,hb1,hr1⟩;have HC:=zz (H.out.below hb1);have HR:=zz (hr1.keep (hb1.mono (Nat.le_of_lt hbl)));clear hb1 hr1)) | (go_at_call 179;go_must ((with_reducible refine(KP.out _ _ _ (Nat.le_of_lt HC.out.rd.lt) HR.out).mono ?_);rintro e w2 ⟨rfl,hb2⟩;have HD:=zz (HC.out.below hb2);clear hb2)) | (go_at_call 58;go_must ((with_reducible refine(KK.out _ HD.out.rd).mono ?_);rintro e w3 ⟨t3,A2,c2,rfl,hs2,hr2,hv2⟩;have HE:=zz (HD.out.call hs2);clear hs2 hr2 hv2)));go_ret;exact⟨rfl,HE.out.step⟩
 | none=>
   have ho:o=0:=by
    by_cases ho:o=0
    ·exact ho
    ·unfold nxo at hp;rw[if_neg ho] at hp;cases hp
   subst ho
   have eR:gate 0 k (plainF l)= .bad k false:=by
    have hp':plainP (nxz l k).parts=none:=hp;rw[z0f];unfold plainF;rw[hp']
    split <;> rfl
   rw[eR];rw[hp] at KP;have KR:=refC1 b A n c l k 0 rfl;have KK:=kindC b A n c l 3 k 1 (by decide) rfl;generalize nxo l k 0=t at K KP;dsimp only[Option.getD,Option.isSome] at KP;clear eR hp t1 t2 t3 t4 h;go_enter Tryz.func157,Tryz.ntmps157;go_wp2_with (first | (go_at_call 31;go_must ((with_reducible refine(K.out _ H.out.rd).mono ?_);rintro e w1 ⟨A1,c1,rfl,hb1,hr1⟩;have HC:=zz (H.out.below hb1);have HR:=zz (hr1.keep (hb1.mono (Nat.le_of_lt hbl)));clear hb1 hr1)) | (go_at_call 179;go_must ((with_reducible refine(KP.out _ _ _ (Nat.le_of_lt HC.out.rd.lt) HR.out).mono ?_);rintro e w2 ⟨rfl,hb2⟩;have HD:=zz (HC.out.below hb2);clear hb2)) | (go_at_call 17;go_must ((with_reducible refine(KR.out _ HD.out.rd).mono ?_);rintro e w4 ⟨rfl,hs4⟩;have HF:=zz (HD.out.call hs4);clear hs4)) | (go_at_call 58;go_must ((with_reducible refine(KK.out _ HF.out.rd).mono ?_);rintro e w3 ⟨t3,A2,c2,rfl,hs2,hr2,hv2⟩;have HE:=zz (HF.out.call hs2);clear hs2 hr2 hv2)));go_ret;exact⟨[],rfl,HE.out.step,fun y j e=>by cases e⟩
def flagB:Nat→Bs | 0=>[101,120] | 1=>[103,108] | 2=>[114,101] | _=>[]
theorem z3y (j:Nat) (hj:j<3) (w:World):Cz 138 #[j] w fun e w'=>e= .returned (.string ⟨(flagB j).toArray⟩)∧w=w':=by
 have h:j=0∨j=1∨j=2:=by omega
 rcases h with rfl | rfl | rfl
 all_goals
  go_enter Tryz.func138,Tryz.ntmps138;go_wp2;go_ret;exact⟨rfl,rfl⟩
def rwB:Nat→Bs | 2=>[116,105,109,101,111,117,116] | 3=>[101,111,102] | _=>[100,101,102,97,117,108,116]
theorem y2b (j:Nat) (hj:2≤j∧j≤4) (w:World):Cz 144 #[j] w fun e w'=>e= .returned (.string ⟨(rwB j).toArray⟩)∧w=w':=by
 have h:j=2∨j=3∨j=4:=by omega
 rcases h with rfl | rfl | rfl
 all_goals
  go_enter Tryz.func144,Tryz.ntmps144;go_wp2;go_ret;exact⟨rfl,rfl⟩
def formB:Nat→Int | 1=>5 | 2=>9 | 3=>3 | 4=>56 | 5=>24 | 6=>17 | 7=>1 | 8=>2 | 9=>2 | 10=>4 | 11=>2 | 12=>64 | 13=>64 | 14=>64 | _=>0
theorem z02 (j:Nat) (hj:1≤j∧j≤16) (w:World):Cz 55 #[j] w fun e w'=>e= .returned (.tuple #[.string ⟨(wordsC.getD (j - 1) []).toArray⟩,iI (formB j)])∧w=w':=by
 have h:j=1∨j=2∨j=3∨j=4∨j=5∨j=6∨j=7∨j=8∨j=9∨j=10∨j=11∨j=12∨j=13∨j=14∨j=15∨j=16:=by omega
 rcases h with rfl | rfl | rfl | rfl | rfl | rfl | rfl | rfl | rfl | rfl | rfl | rfl | rfl | rfl | rfl | rfl
 all_goals
  go_enter Tryz.func55,Tryz.ntmps55;go_wp2
  go_ret2
  exact⟨rfl,rfl⟩
theorem y2w {w:Bs} {j:Nat} (hj:1≤j∧j≤16) (h:wordsC.getD (j - 1) []=w):kindW w=j:=by
 have e:j=1∨j=2∨j=3∨j=4∨j=5∨j=6∨j=7∨j=8∨j=9∨j=10∨j=11∨j=12∨j=13∨j=14∨j=15∨j=16:=by omega
 rcases e with rfl | rfl | rfl | rfl | rfl | rfl | rfl | rfl | rfl | rfl | rfl | rfl | rfl | rfl | rfl | rfl <;> (subst h;decide)
theorem y6z {w:Bs} (h:∀ j,1≤j→j≤16→wordsC.getD (j - 1) []≠w):kindW w=0:=by
 unfold kindW;rw[if_neg];intro hm;obtain⟨i,hi,e⟩:=List.getElem_of_mem hm;have:wordsC.length=16:=rfl;refine h (i+1) (by omega) (by omega) ?_;rw[Nat.add_sub_cancel,List.getD_eq_getElem?_getD,List.getElem?_eq_getElem hi];exact e
theorem y99 (W:BA) (w:World):Cz 54 #[W] w fun e w'=>e= .returned (.int .i64 (kindW W.data.toList))∧w=w':=by
 obtain⟨v,hv⟩:∃ v,v=kindW W.data.toList:=⟨_,rfl⟩;rw[←hv];have HV:=zz hv;clear hv;go_enter Tryz.func54,Tryz.ntmps54;go_wp2
 go_loop [3,4,5] (fun i _ _=>∃ j:Nat,i= .int .i64 j∧1≤j∧j≤17∧∀ m,1≤m→m<j→wordsC.getD (m - 1) []≠W.data.toList) (fun i _ _=>17 - (intOf i).toNat)
 case atStart=>exact⟨1,rfl,by omega,by omega,fun m h1 h2=>by omega⟩
 case round=>
  obtain⟨j,rfl,h1,h2,h3⟩:=hrel;have H3:=zz h3;clear h3;by_cases a:j≤16
  ·have K:Hid (∀ w',Cz 55 #[j] w' fun e w2=>e= .returned (.tuple #[.string ⟨(wordsC.getD (j - 1) []).toArray⟩,iI (formB j)])∧w'=w2):=zz fun w'=>z02 j ⟨h1,a⟩ w'
   obtain⟨S,hS⟩:∃ S:BA,S=⟨(wordsC.getD (j - 1) []).toArray⟩:=⟨_,rfl⟩;rw[←hS] at K;generalize formB j=f at K;by_cases e:S=W
   ·have HX:Hid (v=j):=zz (by rw[HV.out];exact y2w ⟨h1,a⟩ ((z4d hS).2 e))
    subst e;clear hS;go_wp2_with (go_at_call 55;go_must ((with_reducible refine(K.out _).mono ?_);rintro e w1 ⟨rfl,rfl⟩));go_ret;exact⟨by rw[HX.out];rfl,rfl⟩
   ·have HX:Hid (∀ m,1≤m→m<j+1→wordsC.getD (m - 1) []≠W.data.toList):=zz fun m hm1 hm2=>by
     by_cases c:m<j
     ·exact H3.out m hm1 c
     ·have:m=j:=by omega
      subst this;exact fun e2=>e ((z4d hS).1 e2)
    have b2:(S.toList==W.toList)=false:=z7r e;clear hS e;go_wp2_with (go_at_call 55;go_must ((with_reducible refine(K.out _).mono ?_);rintro e w1 ⟨rfl,rfl⟩))
    go_round
    case rel=>exact⟨j+1,by go_num,by omega,by omega,HX.out⟩
    case measure=>simp[intOf];omega
  ·have HX:Hid (v=0):=zz (by rw[HV.out];exact y6z fun m hm1 hm2=>H3.out m hm1 (by omega))
   go_wp2;go_ret;exact⟨by rw[HX.out];rfl,rfl⟩
end Go.Proofs.YtngfihoempcplaaGreatDoor
