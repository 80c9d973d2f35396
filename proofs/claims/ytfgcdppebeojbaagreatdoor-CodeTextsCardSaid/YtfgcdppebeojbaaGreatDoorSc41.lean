import Derived.Test.YtfgcdppebeojbaaGreatDoorEx20
import Derived.Test.YtfgcdppebeojbaaGreatDoorNLaid
import Derived.Test.YtfgcdppebeojbaaGreatDoorPlainC
import Derived.Deep.RegionHeld3
import Derived.Test.YtfgcdppebeojbaaGreatDoorEx29
import Derived.Deep.AppendLies
import Derived.Deep.Slices
import Derived.Deep.LoopGhost
import Derived.Test.YtfgcdppebeojbaaGreatDoorTkQ
import Derived.Test.YtfgcdppebeojbaaGreatDoorEx30
namespace Go.Proofs.YtfgcdppebeojbaaGreatDoor
open Go Go.RowKit
section
mutual
inductive Cm where
 | mk (kind:Int) (name:Bs) (n:Int) (parts:List Pt) (cond:Ex) (body els:List Cm) (rules:List Ru) (pl:Int):Cm
inductive Ru where
 | mk (kind peer pk:Int) (pt:Bs) (body:List Cm) (pl:Int):Ru
end
theorem Cm.ind2 {P:Cm→Prop} {Q:Ru→Prop} (h:∀ k nm n ps x b e u p,(∀ c∈b,P c)→(∀ c∈e,P c)→(∀ r∈u,Q r)→P (.mk k nm n ps x b e u p)) (h':∀ k q pk pt b p,(∀ c∈b,P c)→Q (.mk k q pk pt b p)):(∀ c,P c)∧∀ r,Q r:=by
 have hc:∀ (a:Cm) (l:List Cm),P a→(∀ c∈l,P c)→∀ c∈a::l,P c:=fun a l ha hl c hc=>by
  rcases List.mem_cons.1 hc with rfl | hc
  ·exact ha
  ·exact hl c hc
 have hr:∀ (a:Ru) (l:List Ru),Q a→(∀ c∈l,Q c)→∀ c∈a::l,Q c:=fun a l ha hl c hc=>by
  rcases List.mem_cons.1 hc with rfl | hc
  ·exact ha
  ·exact hl c hc
 refine⟨fun c=>?_,fun r=>?_⟩
 ·exact Cm.rec (motive_1:=P) (motive_2:=Q) (motive_3:=fun l=>∀ c∈l,P c) (motive_4:=fun l=>∀ r∈l,Q r)
   (fun k nm n ps x b e u p hb he hu=>h k nm n ps x b e u p hb he hu) (fun k q pk pt b p hb=>h' k q pk pt b p hb) (fun c hc=>by cases hc) (fun a l ha hl=>hc a l ha hl) (fun c hc=>by cases hc) (fun a l ha hl=>hr a l ha hl) c
 ·exact Ru.rec (motive_1:=P) (motive_2:=Q) (motive_3:=fun l=>∀ c∈l,P c) (motive_4:=fun l=>∀ r∈l,Q r)
   (fun k nm n ps x b e u p hb he hu=>h k nm n ps x b e u p hb he hu) (fun k q pk pt b p hb=>h' k q pk pt b p hb) (fun c hc=>by cases hc) (fun a l ha hl=>hc a l ha hl) (fun c hc=>by cases hc) (fun a l ha hl=>hr a l ha hl) r
def Cm.kind:Cm→Int | .mk k _ _ _ _ _ _ _ _=>k
def Cm.name:Cm→Bs | .mk _ nm _ _ _ _ _ _ _=>nm
def Cm.n:Cm→Int | .mk _ _ n _ _ _ _ _ _=>n
def Cm.parts:Cm→List Pt | .mk _ _ _ ps _ _ _ _ _=>ps
def Cm.cond:Cm→Ex | .mk _ _ _ _ x _ _ _ _=>x
def Cm.body:Cm→List Cm | .mk _ _ _ _ _ b _ _ _=>b
def Cm.els:Cm→List Cm | .mk _ _ _ _ _ _ e _ _=>e
def Cm.rules:Cm→List Ru | .mk _ _ _ _ _ _ _ u _=>u
def Cm.pl:Cm→Int | .mk _ _ _ _ _ _ _ _ p=>p
def Ru.kind:Ru→Int | .mk k _ _ _ _ _=>k
def Ru.peer:Ru→Int | .mk _ q _ _ _ _=>q
def Ru.pk:Ru→Int | .mk _ _ pk _ _ _=>pk
def Ru.pt:Ru→Bs | .mk _ _ _ pt _ _=>pt
def Ru.body:Ru→List Cm | .mk _ _ _ _ b _=>b
def Ru.pl:Ru→Int | .mk _ _ _ _ _ p=>p
inductive Rz (α:Type) where
 | ok (x:α) (j:Nat):Rz α
 | bad (j:Nat) (deep:Bool):Rz α
def Rz.at {α:Type}:Rz α→Nat | .ok _ j=>j | .bad j _=>j
def Rz.err {α:Type}:Rz α→Nat | .ok _ _=>0 | .bad _ d=>if d then 8 else 1
def Rz.then {α β:Type}:Rz α→(α→Nat→Rz β)→Rz β | .ok x j,f=>f x j | .bad j d,_=> .bad j d
def gate {α:Type} (o k:Nat) (F:Nat→Rz α):Rz α:=if o=0 then F k else .bad k (o==8)
theorem gate_ok {α:Type} (k:Nat) (F:Nat→Rz α):gate 0 k F=F k:=rfl
theorem Rz.err_cases {α:Type} (R:Rz α):R.err=0∨R.err=1∨R.err=8:=by
 cases R with
 | ok x j=>exact .inl rfl
 | bad j d=>cases d <;> simp[Rz.err]
theorem gate_err {α:Type} {o k:Nat} {F:Nat→Rz α} (ho:o=1∨o=8):(gate o k F).err=o∧(gate o k F).at=k:=by
 rcases ho with rfl | rfl <;> exact⟨rfl,rfl⟩
theorem gate_bad {α:Type} {o k:Nat} {F:Nat→Rz α} (ho:o≠0) {x:α} {j:Nat}:gate o k F≠ .ok x j:=by unfold gate;rw[if_neg ho];intro e;cases e
theorem Rz.then_assoc {α β γ:Type} (R:Rz α) (f:α→Nat→Rz β) (g:β→Nat→Rz γ):(R.then f).then g=R.then fun x j=>(f x j).then g:=by cases R <;> rfl
theorem Rz.then_ok {α β:Type} {R:Rz α} {f:α→Nat→Rz β} {y:β} {j:Nat} (h:R.then f= .ok y j):∃ x i,R= .ok x i∧f x i= .ok y j:=by
 cases R with
 | ok x i=>exact⟨x,i,rfl,h⟩
 | bad i d=>cases h
def Rz.within {α:Type} (i n:Nat):Rz α→Prop
 | .ok _ j=>i≤j∧j≤n
 | .bad j _=>j≤n
theorem within_then {α β:Type} {i n:Nat} {R:Rz α} {f:α→Nat→Rz β} (h:R.within i n) (hf:∀ x j,R= .ok x j→i≤j→j≤n→(f x j).within j n):(R.then f).within i n:=by
 cases R with
 | ok x j=>
   have:=hf x j rfl h.1 h.2;show (f x j).within i n
   revert this
   cases f x j with
   | ok y m=>exact fun q=>⟨Nat.le_trans h.1 q.1,q.2⟩
   | bad m d=>exact fun q=>q
 | bad j d=>exact h
theorem Rz.within.at_le {α:Type} {i n:Nat} {R:Rz α} (h:R.within i n):R.at≤n:=by
 cases R with
 | ok x j=>exact h.2
 | bad j d=>exact h
def tokZ:Tok:=⟨0,[],0,[],0⟩
def nxz (l:List Tok) (k:Nat):Tok:=l[k]?.getD tokZ
theorem nxz_at {l:List Tok} {k:Nat} {t:Tok} (h:l[k]?=some t):nxz l k=t:=by unfold nxz;rw[h];rfl
theorem nxz_end {l:List Tok} {k:Nat} (h:¬ k<l.length):nxz l k=tokZ:=by unfold nxz;rw[List.getElem?_eq_none (by omega)];rfl
theorem nxz_lt {l:List Tok} {k:Nat} (h:(nxz l k).kind≠0):k<l.length:=by
 by_cases c:k<l.length
 ·exact c
 ·rw[nxz_end c] at h;exact absurd rfl h
def isT (l:List Tok) (kd:Int) (w:Bs) (k:Nat):Bool:=decide ((nxz l k).kind=kd∧(nxz l k).word=w)
theorem isT_lt {l:List Tok} {kd:Int} {w:Bs} {k:Nat} (h:isT l kd w k=true) (hk:kd≠0):k<l.length:=nxz_lt (by have:=of_decide_eq_true h;rw[this.1];exact hk)
def wordsC:List Bs:=[[115,101,116],[108,101,116],[105,110,99,114],[105,102],[119,104,105,108,101],[112,114,111,99],[99,97,108,108],[115,112,97,119,110],[117,115,101],[115,101,110,100],[116,105,109,101,111,117,116],[101,120,112,101,99,116],
 [101,120,112,101,99,116,95,98,101,102,111,114,101],[101,120,112,101,99,116,95,97,102,116,101,114],[101,120,112,95,99,111,110,116,105,110,117,101],[101,120,105,116]]
def kindW (w:Bs):Nat:=if w∈wordsC then wordsC.idxOf w+1 else 0
theorem kindW_le (w:Bs):kindW w≤16:=by
 unfold kindW
 split
 ·rename_i h
  have:=List.idxOf_lt_length_of_mem h;have e:wordsC.length=16:=rfl;omega
 ·omega
variable (l:List Tok)
def needF (kd:Int) (w:Bs) (k:Nat):Rz Unit:=if isT l kd w k then .ok () (k+1) else .bad k false
def kindF (kd:Int) (k:Nat):Rz Tok:=if (nxz l k).kind=kd then .ok (nxz l k) (k+1) else .bad k false
def nameF (k:Nat):Rz Bs:=if (nxz l k).kind=1∧isName (nxz l k).word=true then .ok (nxz l k).word (k+1) else .bad k false
def numF (kind:Int) (k:Nat):Rz Int:=
 if kind=3∧isT l 4 [45] k=true then (kindF l 2 (k+1)).then fun t j=> .ok (-t.n) j
 else if kind=11∧isT l 1 [110,101,118,101,114] k=true then .ok (-1) (k+1)
 else (kindF l 2 k).then fun t j=> .ok t.n j
def textF (k:Nat):Rz (List Pt):=(kindF l 3 k).then fun t j=> .ok t.parts j
open Classical in
noncomputable def exR (k:Nat):Rs:=if h:∃ r,RdE l (.some 1) k 0 r then h.choose else .bad k 1
def exZ:Rs→Rz Ex | .ok x j=> .ok x j | .bad j e=> .bad j (e==8)
noncomputable def condF (k:Nat):Rz Ex:=(needF l 4 [40] k).then fun _ i=>(exZ (exR l i)).then fun x j=>(needF l 4 [41] j).then fun _ m=>if mayX x 0 then .ok x m else .bad k true
def braceF (d k:Nat):Rz Unit:=if d=16∧isT l 4 [123] k=true then .bad k true else needF l 4 [123] k
def blockF (rec:Nat→Nat→Rz (List Cm)) (d k:Nat):Rz (List Cm):=(braceF l d k).then fun _ i=>(rec (d+1) i).then fun x j=>(needF l 4 [125] j).then fun _ m=> .ok x m
def plainP (ps:List Pt):Option Bs:=match ps with
 | []=>some []
 | [p]=>if p.1=[] then some p.2 else none
 | _=>none
def plainF (k:Nat):Rz Bs:=if (nxz l k).kind=3 then (match plainP (nxz l k).parts with | some s=> .ok s (k+1) | none=> .bad k false) else .bad k false
def patF (k:Nat):Rz (Int × Bs):=
 if isT l 5 [101,120] k then (plainF l (k+1)).then fun s j=> .ok (0,s) j
 else if isT l 5 [103,108] k then (plainF l (k+1)).then fun s j=> .ok (1,s) j
 else if isT l 5 [114,101] k then (plainF l (k+1)).then fun s j=> .ok (2,s) j
 else .bad k false
def rwordF (told:Bool) (k:Nat):Rz Int:=
 if told=false∧isT l 1 [116,105,109,101,111,117,116] k=true then .ok 2 (k+1)
 else if isT l 1 [101,111,102] k then .ok 3 (k+1)
 else if told=false∧isT l 1 [100,101,102,97,117,108,116] k=true then .ok 4 (k+1)
 else .bad k false
def peerF (k:Nat):Rz Int:=if isT l 5 [105] k then (kindF l 2 (k+1)).then fun t j=> .ok t.n j else .ok (-1) k
def headF (told:Bool) (k:Nat):Rz (Int × Int × Bs):=if (nxz l k).kind=5 then (patF l k).then fun p j=> .ok (1,p.1,p.2) j else (rwordF l told k).then fun x j=> .ok (x,0,[]) j
def ruleF (blk:Nat→Nat→Rz (List Cm)) (d k:Nat):Rz Ru:=
 (peerF l k).then fun q i=>(headF l (isT l 5 [105] k) i).then fun h j=>(blk d j).then fun b m=> .ok (.mk h.1 q h.2.1 h.2.2 b (nxz l k).pl) m
def rulesL (blk:Nat→Nat→Rz (List Cm)) (d:Nat):Nat→Nat→Rz (List Ru)
 | 0,k=> .bad k false
 | N+1,k=>(ruleF l blk d k).then fun r i=>if isT l 4 [125] i then .ok [r] (i+1) else (rulesL blk d N i).then fun rs m=> .ok (r::rs) m
def rulesF (blk:Nat→Nat→Rz (List Cm)) (d k:Nat):Rz (List Ru):=(braceF l d k).then fun _ i=>rulesL l blk (d+1) (l.length+1) i
noncomputable def cmdF (blk:Nat→Nat→Rz (List Cm)) (d k:Nat):Rz Cm:=
 let p:=(nxz l k).pl
 match kindW (nxz l k).word with
 | 1=>(nameF l (k+1)).then fun s i=>(textF l i).then fun ps j=> .ok (.mk 1 s 0 ps exNone [] [] [] p) j
 | 2=>(nameF l (k+1)).then fun s i=>(condF l i).then fun x j=> .ok (.mk 2 s 0 [] x [] [] [] p) j
 | 3=>(nameF l (k+1)).then fun s i=>(numF l 3 i).then fun z j=> .ok (.mk 3 s z [] exNone [] [] [] p) j
 | 4=>(condF l (k+1)).then fun x i=>(blk d i).then fun b j=>if isT l 1 [101,108,115,101] j then (blk d (j+1)).then fun e m=> .ok (.mk 4 [] 0 [] x b e [] p) m else .ok (.mk 4 [] 0 [] x b [] [] p) j
 | 5=>(condF l (k+1)).then fun x i=>(blk d i).then fun b j=> .ok (.mk 5 [] 0 [] x b [] [] p) j
 | 6=>(nameF l (k+1)).then fun s i=>(blk d i).then fun b j=> .ok (.mk 6 s 0 [] exNone b [] [] p) j
 | 7=>(nameF l (k+1)).then fun s i=> .ok (.mk 7 s 0 [] exNone [] [] [] p) i
 | 8=>(numF l 8 (k+1)).then fun z i=> .ok (.mk 8 [] z [] exNone [] [] [] p) i
 | 9=>(numF l 9 (k+1)).then fun z i=> .ok (.mk 9 [] z [] exNone [] [] [] p) i
 | 10=>(textF l (k+1)).then fun ps i=> .ok (.mk 10 [] 0 ps exNone [] [] [] p) i
 | 11=>(numF l 11 (k+1)).then fun z i=> .ok (.mk 11 [] z [] exNone [] [] [] p) i
 | 12=>(rulesF l blk d (k+1)).then fun u i=> .ok (.mk 12 [] 0 [] exNone [] [] u p) i
 | 13=>(rulesF l blk d (k+1)).then fun u i=> .ok (.mk 13 [] 0 [] exNone [] [] u p) i
 | 14=>(rulesF l blk d (k+1)).then fun u i=> .ok (.mk 14 [] 0 [] exNone [] [] u p) i
 | 15=> .ok (.mk 15 [] 0 [] exNone [] [] [] p) (k+1)
 | 16=> .ok (.mk 16 [] 0 [] exNone [] [] [] p) (k+1)
 | _=> .bad k false
noncomputable def cmdsF:Nat→Nat→Nat→Rz (List Cm)
 | 0,_,k=> .ok [] k
 | N+1,d,k=>if (nxz l k).kind=1 then (cmdF l (blockF l (cmdsF N)) d k).then fun c i=>(cmdsF N d i).then fun cs m=> .ok (c::cs) m else .ok [] k
noncomputable def cmdsD:Nat→Nat→Nat→Rz (List Cm)
 | 0,_,k=>if k<l.length∧¬ isT l 4 [125] k=true then .bad k false else .ok [] k
 | N+1,d,k=>if k<l.length∧¬ isT l 4 [125] k=true then (if (nxz l k).kind=1 then (cmdF l (blockF l (cmdsD N)) d k).then fun c i=>(cmdsD N d i).then fun cs m=> .ok (c::cs) m else .bad k false) else .ok [] k
noncomputable def allF:Rz (List Cm):=(cmdsF l (l.length+1) 0 0).then fun x j=>if j<l.length then .bad j false else .ok x j
noncomputable def allD:Rz (List Cm):=(cmdsD l (l.length+1) 0 0).then fun x j=>if j<l.length then .bad j false else .ok x j
end
section
theorem Rz.within.from {α:Type} {i i' n:Nat} {R:Rz α} (h:R.within i n) (hi:i'≤i):R.within i' n:=by
 cases R with
 | ok x j=>exact⟨Nat.le_trans hi h.1,h.2⟩
 | bad j d=>exact h
theorem within_map {α β:Type} {i n:Nat} {R:Rz α} {g:α→β} (h:R.within i n):(R.then fun x j=> .ok (g x) j).within i n:=within_then h fun _ _ _ _ h2=>⟨Nat.le_refl _,h2⟩
variable {l:List Tok}
theorem needF_in {kd:Int} {w:Bs} {k:Nat} (hk:kd≠0) (h:k≤l.length):(needF l kd w k).within k l.length:=by
 unfold needF
 split
 ·rename_i c;exact⟨Nat.le_succ _,isT_lt c hk⟩
 ·exact h
theorem kindF_in {kd:Int} {k:Nat} (hk:kd≠0) (h:k≤l.length):(kindF l kd k).within k l.length:=by
 unfold kindF
 split
 ·rename_i c;exact⟨Nat.le_succ _,nxz_lt (by rw[c];exact hk)⟩
 ·exact h
theorem nameF_in {k:Nat} (h:k≤l.length):(nameF l k).within k l.length:=by
 unfold nameF
 split
 ·rename_i c;exact⟨Nat.le_succ _,nxz_lt (by rw[c.1];decide)⟩
 ·exact h
theorem textF_in {k:Nat} (h:k≤l.length):(textF l k).within k l.length:=within_map (kindF_in (by decide) h)
theorem numF_in {kind:Int} {k:Nat} (h:k≤l.length):(numF l kind k).within k l.length:=by
 unfold numF
 split
 ·rename_i c;exact(within_map (kindF_in (by decide) (isT_lt c.2 (by decide)))).from (Nat.le_succ _)
 ·split
  ·rename_i c;exact⟨Nat.le_succ _,isT_lt c.2 (by decide)⟩
  ·exact within_map (kindF_in (by decide) h)
theorem exR_in {k:Nat} (h:k≤l.length):(exR l k).within l k:=by
 unfold exR
 split
 ·rename_i c;exact c.choose_spec.within (Nat.le_refl 1) h
 ·exact⟨Nat.le_refl _,h,.inl rfl⟩
theorem exZ_in {k:Nat} {r:Rs} (h:r.within l k):(exZ r).within k l.length:=by
 cases r with
 | ok x j=>exact h
 | bad j e=>exact h.2.1
theorem condF_in {k:Nat} (h:k≤l.length):(condF l k).within k l.length:=by
 have h1:=needF_in (l:=l) (kd:=4) (w:=[40]) (by decide) h;unfold condF
 cases hq:needF l 4 [40] k with
 | bad j d=>rw[hq] at h1;exact h1
 | ok u i=>
   rw[hq] at h1;have h2:=exZ_in (exR_in h1.2);show ((exZ (exR l i)).then _).within k l.length
   cases hx:exZ (exR l i) with
   | bad j d=>rw[hx] at h2;exact h2
   | ok x j=>
     rw[hx] at h2;have h3:=needF_in (l:=l) (kd:=4) (w:=[41]) (by decide) h2.2;show ((needF l 4 [41] j).then _).within k l.length
     cases hn:needF l 4 [41] j with
     | bad m d=>rw[hn] at h3;exact h3
     | ok u m=>
       rw[hn] at h3;show (if mayX x 0=true then Rz.ok x m else .bad k true).within k l.length
       split
       ·exact⟨by have:=h1.1;have:=h2.1;have:=h3.1;omega,h3.2⟩
       ·exact h
theorem braceF_in {d k:Nat} (h:k≤l.length):(braceF l d k).within k l.length:=by
 unfold braceF
 split
 ·exact h
 ·exact needF_in (by decide) h
def BlkIn (l:List Tok) (blk:Nat→Nat→Rz (List Cm)):Prop:=∀ d k,k≤l.length→(blk d k).within k l.length
theorem blockF_in {rec:Nat→Nat→Rz (List Cm)} (hr:BlkIn l rec):BlkIn l (blockF l rec):=fun _ _ h=>
 within_then (braceF_in h) fun _ _ _ _ h1=>within_then (hr _ _ h1) fun _ _ _ _ h2=>within_map (g:=fun _=>_) (needF_in (by decide) h2)
theorem plainF_in {k:Nat} (h:k≤l.length):(plainF l k).within k l.length:=by
 unfold plainF
 split
 ·rename_i c
  split
  ·exact⟨Nat.le_succ _,nxz_lt (by rw[c];decide)⟩
  ·exact h
 ·exact h
theorem patF_in {k:Nat} (h:k≤l.length):(patF l k).within k l.length:=by
 unfold patF
 split
 ·rename_i c;exact(within_map (plainF_in (isT_lt c (by decide)))).from (Nat.le_succ _)
 ·split
  ·rename_i c;exact(within_map (plainF_in (isT_lt c (by decide)))).from (Nat.le_succ _)
  ·split
   ·rename_i c;exact(within_map (plainF_in (isT_lt c (by decide)))).from (Nat.le_succ _)
   ·exact h
theorem rwordF_in {told:Bool} {k:Nat} (h:k≤l.length):(rwordF l told k).within k l.length:=by
 unfold rwordF
 split
 ·rename_i c;exact⟨Nat.le_succ _,isT_lt c.2 (by decide)⟩
 ·split
  ·rename_i c;exact⟨Nat.le_succ _,isT_lt c (by decide)⟩
  ·split
   ·rename_i c;exact⟨Nat.le_succ _,isT_lt c.2 (by decide)⟩
   ·exact h
theorem peerF_in {k:Nat} (h:k≤l.length):(peerF l k).within k l.length:=by
 unfold peerF
 split
 ·rename_i c;exact(within_map (kindF_in (by decide) (isT_lt c (by decide)))).from (Nat.le_succ _)
 ·exact⟨Nat.le_refl _,h⟩
theorem headF_in {told:Bool} {k:Nat} (h:k≤l.length):(headF l told k).within k l.length:=by
 unfold headF
 split
 ·exact within_map (patF_in h)
 ·exact within_map (rwordF_in h)
theorem headF_more {told:Bool} {k:Nat} {p:Int × Int × Bs} {j:Nat} (h:headF l told k= .ok p j):k<j:=by
 have e:∀ {α:Type} {f:Bs→α} {x:α},((plainF l (k+1)).then fun s j=> .ok (f s) j)= .ok x j→k<j:=fun {α f x} h=>by
  obtain⟨s,i,h1,h2⟩:=Rz.then_ok h;injection h2 with _ h2
  subst h2;unfold plainF at h1
  split at h1
  ·split at h1
   ·injection h1 with _ h1;omega
   ·cases h1
  ·cases h1
 unfold headF at h
 split at h
 ·obtain⟨s,i,h1,h2⟩:=Rz.then_ok h
  injection h2 with _ h2
  subst h2;unfold patF at h1
  split at h1
  ·exact e h1
  ·split at h1
   ·exact e h1
   ·split at h1
    ·exact e h1
    ·cases h1
 ·obtain⟨s,i,h1,h2⟩:=Rz.then_ok h
  injection h2 with _ h2
  subst h2;unfold rwordF at h1
  split at h1
  ·injection h1 with _ h1;omega
  ·split at h1
   ·injection h1 with _ h1;omega
   ·split at h1
    ·injection h1 with _ h1;omega
    ·cases h1
theorem ruleF_in {blk:Nat→Nat→Rz (List Cm)} (hb:BlkIn l blk) {d k:Nat} (h:k≤l.length):(ruleF l blk d k).within k l.length:=
 within_then (peerF_in h) fun _ _ _ _ h1=>within_then (headF_in h1) fun _ _ _ _ h2=>within_map (g:=fun _=>_) (hb _ _ h2)
theorem within_eq {α:Type} {i n:Nat} {R:Rz α} {x:α} {j:Nat} (h:R.within i n) (e:R= .ok x j):i≤j∧j≤n:=by subst e;exact h
theorem ruleF_more {blk:Nat→Nat→Rz (List Cm)} (hb:BlkIn l blk) {d k:Nat} (h:k≤l.length) {r:Ru} {j:Nat} (e:ruleF l blk d k= .ok r j):k<j:=by
 obtain⟨q,i,h1,e⟩:=Rz.then_ok e;have a1:=within_eq (peerF_in h) h1;obtain⟨p,m,h2,e⟩:=Rz.then_ok e;have a2:=within_eq (headF_in a1.2) h2;have a3:=headF_more h2;obtain⟨b,m2,h3,e⟩:=Rz.then_ok e;have a4:=within_eq (hb _ _ a2.2) h3;injection e with _ e
 omega
theorem rulesL_in {blk:Nat→Nat→Rz (List Cm)} (hb:BlkIn l blk) {d:Nat}:∀ {N k:Nat},k≤l.length→(rulesL l blk d N k).within k l.length
 | 0,k,h=>h
 | N+1,k,h=>within_then (ruleF_in hb h) fun r i hi _ h1=>by
   split
   ·rename_i c;exact⟨Nat.le_succ _,isT_lt c (by decide)⟩
   ·exact within_map (g:=fun _=>_) (rulesL_in hb h1)
theorem rulesF_in {blk:Nat→Nat→Rz (List Cm)} (hb:BlkIn l blk) {d k:Nat} (h:k≤l.length):(rulesF l blk d k).within k l.length:=within_then (braceF_in h) fun _ _ _ _ h1=>rulesL_in hb h1
theorem cmdF_in {blk:Nat→Nat→Rz (List Cm)} (hb:BlkIn l blk) {d k:Nat} (h:k<l.length):(cmdF l blk d k).within (k+1) l.length:=by
 have h1:k+1≤l.length:=h;unfold cmdF;dsimp only
 split
 ·exact within_then (nameF_in h1) fun _ _ _ _ h2=>within_map (g:=fun _=>_) (textF_in h2)
 ·exact within_then (nameF_in h1) fun _ _ _ _ h2=>within_map (g:=fun _=>_) (condF_in h2)
 ·exact within_then (nameF_in h1) fun _ _ _ _ h2=>within_map (g:=fun _=>_) (numF_in h2)
 ·refine within_then (condF_in h1) fun _ _ _ _ h2=>within_then (hb _ _ h2) fun _ _ _ _ h3=>?_
  split
  ·rename_i c;exact(within_map (g:=fun _=>_) (hb _ _ (isT_lt c (by decide)))).from (Nat.le_succ _)
  ·exact⟨Nat.le_refl _,h3⟩
 ·exact within_then (condF_in h1) fun _ _ _ _ h2=>within_map (g:=fun _=>_) (hb _ _ h2)
 ·exact within_then (nameF_in h1) fun _ _ _ _ h2=>within_map (g:=fun _=>_) (hb _ _ h2)
 ·exact within_map (g:=fun _=>_) (nameF_in h1)
 ·exact within_map (g:=fun _=>_) (numF_in h1)
 ·exact within_map (g:=fun _=>_) (numF_in h1)
 ·exact within_map (g:=fun _=>_) (textF_in h1)
 ·exact within_map (g:=fun _=>_) (numF_in h1)
 ·exact within_map (g:=fun _=>_) (rulesF_in hb h1)
 ·exact within_map (g:=fun _=>_) (rulesF_in hb h1)
 ·exact within_map (g:=fun _=>_) (rulesF_in hb h1)
 ·exact⟨Nat.le_refl _,h1⟩
 ·exact⟨Nat.le_refl _,h1⟩
 ·exact Nat.le_of_lt h
theorem cmdsF_in:∀ N,BlkIn l (cmdsF l N)
 | 0,_,_,h=>⟨Nat.le_refl _,h⟩
 | N+1,d,k,h=>by
   rw[cmdsF]
   split
   ·rename_i c
    exact(within_then (cmdF_in (blockF_in (cmdsF_in N)) (nxz_lt (by rw[c];decide))) fun _ _ _ _ h2=>within_map (g:=fun _=>_) (cmdsF_in N d _ h2)).from (Nat.le_succ _)
   ·exact⟨Nat.le_refl _,h⟩
theorem cmdsD_in:∀ N,BlkIn l (cmdsD l N)
 | 0,_,_,h=>by
   rw[cmdsD]
   split
   ·exact h
   ·exact⟨Nat.le_refl _,h⟩
 | N+1,d,k,h=>by
   rw[cmdsD]
   split
   ·rename_i c1
    split
    ·rename_i c
     exact(within_then (cmdF_in (blockF_in (cmdsD_in N)) (nxz_lt (by rw[c];decide))) fun _ _ _ _ h2=>within_map (g:=fun _=>_) (cmdsD_in N d _ h2)).from (Nat.le_succ _)
    ·exact h
   ·exact⟨Nat.le_refl _,h⟩
def adj (l:List Tok) (R:Rz (List Cm)):Rz (List Cm):=R.then fun x j=>if j<l.length∧¬ isT l 4 [125] j=true then .bad j false else .ok x j
theorem need_adj (R:Rz (List Cm)):((adj l R).then fun x j=>(needF l 4 [125] j).then fun _ m=>Rz.ok x m)=R.then fun x j=>(needF l 4 [125] j).then fun _ m=>Rz.ok x m:=by
 cases R with
 | bad j d=>rfl
 | ok x j=>
   by_cases c:j<l.length∧¬ isT l 4 [125] j=true
   ·have e1:adj l (Rz.ok x j)= .bad j false:=if_pos c
    have e2:needF l 4 [125] j= .bad j false:=if_neg c.2;rw[e1];show _=(needF l 4 [125] j).then _
    rw[e2];rfl
   ·have e1:adj l (Rz.ok x j)= .ok x j:=if_neg c
    rw[e1]
theorem blockF_adj {r r':Nat→Nat→Rz (List Cm)} (h:∀ d k,r' d k=adj l (r d k)):blockF l r'=blockF l r:=by
 funext d k
 unfold blockF
 congr 1
 funext _ i
 rw[h,need_adj]
theorem adj_then {α:Type} (R:Rz α) (f:α→Nat→Rz (List Cm)):adj l (R.then f)=R.then fun x j=>adj l (f x j):=by cases R <;> rfl
theorem adj_cons (c:Cm) (R:Rz (List Cm)):adj l (R.then fun cs m=> .ok (c::cs) m)=(adj l R).then fun cs m=> .ok (c::cs) m:=by
 cases R with
 | bad j d=>rfl
 | ok x j=>
   show (if _ then _ else _)=(if _ then _ else _:Rz _).then _
   split <;> rfl
theorem cmdsD_adj:∀ N d k,cmdsD l N d k=adj l (cmdsF l N d k)
 | 0,d,k=>rfl
 | N+1,d,k=>by
   have ih:=cmdsD_adj N;rw[cmdsD,cmdsF,blockF_adj ih];by_cases c:(nxz l k).kind=1
   ·have h1:k<l.length:=nxz_lt (by rw[c];decide)
    have h2:¬ isT l 4 [125] k=true:=fun e=>by
     have:=(of_decide_eq_true e).1;rw[c] at this;cases this
    rw[if_pos ⟨h1,h2⟩,if_pos c,if_pos c,adj_then]
    congr 1
    funext c i
    rw[adj_cons,ih]
   ·rw[if_neg c,if_neg c];rfl
theorem allD_eq:allD l=allF l:=by
 unfold allD allF;rw[cmdsD_adj]
 cases cmdsF l (l.length+1) 0 0 with
 | bad j d=>rfl
 | ok x j=>
   show (if _ then _ else _:Rz _).then _=if _ then _ else _
   by_cases c:j<l.length
   ·by_cases c2:isT l 4 [125] j=true
    ·rw[if_neg (fun e=>e.2 c2)];rfl
    ·rw[if_pos ⟨c,c2⟩,if_pos c];rfl
   ·rw[if_neg (fun e=>c e.1)];rfl
end
def LieL (w:World) (a:Addr) (vs:List Value):Prop:=∀ j u,vs[j]?=some u→w.cell? (a.add j)=some u
theorem LieL.keep {w w':World} {a:Addr} {vs:List Value} (h:LieL w a vs) (hb:∀ p:Addr,p.block=a.block→w'.cell? p=w.cell? p):LieL w' a vs:=fun j u hu=>(hb _ (blockX_add a j)).trans (h j u hu)
def RdP (P:Nat→Prop) (w:World) (A:Option Addr) (ps:List Pt):Prop:=ps=[]∨∃ ad,A=some ad∧P ad.block∧LieL w ad (cellsP ps)
structure Lk where
 p:Option Addr
 cp:Nat
 x:Option Addr
 cx:Nat
 b:Option Addr
 cb:Nat
 e:Option Addr
 ce:Nat
 u:Option Addr
 cu:Nat
def cellsC (c:Cm) (k:Lk):List Value:=[.int .i64 c.kind,.string ⟨c.name.toArray⟩,.int .i64 c.n,.slice k.p c.parts.length k.cp,.int .i64 c.cond.kind,.int .i64 c.cond.n,.string ⟨c.cond.name.toArray⟩,.string ⟨c.cond.op.toArray⟩,.slice k.x c.cond.kids.length k.cx,
 .slice k.b c.body.length k.cb,.slice k.e c.els.length k.ce,.slice k.u c.rules.length k.cu,.int .i64 c.pl]
def valC (c:Cm) (k:Lk):Value:= .agg (cellsC c k).toArray
def cellsR (r:Ru) (A:Option Addr) (c:Nat):List Value:=[.int .i64 r.kind,.int .i64 r.peer,.int .i64 r.pk,.string ⟨r.pt.toArray⟩,.slice A r.body.length c,.int .i64 r.pl]
mutual
def KidC (P:Nat→Prop) (w:World) (k:Lk):Cm→Prop
 | .mk _ _ _ ps x b e u _=>RdP P w k.p ps∧KidsX P w k.x x∧(b=[]∨∃ ad,k.b=some ad∧P ad.block∧KidCL P w ad 0 b)∧(e=[]∨∃ ad,k.e=some ad∧P ad.block∧KidCL P w ad 0 e)∧(u=[]∨∃ ad,k.u=some ad∧P ad.block∧KidRL P w ad 0 u)
def KidR (P:Nat→Prop) (w:World) (A:Option Addr):Ru→Prop
 | .mk _ _ _ _ b _=>b=[]∨∃ ad,A=some ad∧P ad.block∧KidCL P w ad 0 b
def KidCL (P:Nat→Prop) (w:World) (ad:Addr) (i:Nat):List Cm→Prop
 | []=>True
 | c::cs=>(∃ k,LieL w (ad.add (i * 13)) (cellsC c k)∧KidC P w k c)∧KidCL P w ad (i+1) cs
def KidRL (P:Nat→Prop) (w:World) (ad:Addr) (i:Nat):List Ru→Prop
 | []=>True
 | r::rs=>(∃ A c,LieL w (ad.add (i * 6)) (cellsR r A c)∧KidR P w A r)∧KidRL P w ad (i+1) rs
end
def RowC (P:Nat→Prop) (w:World) (A:Option Addr) (b:List Cm):Prop:=b=[]∨∃ ad,A=some ad∧P ad.block∧KidCL P w ad 0 b
def RowU (P:Nat→Prop) (w:World) (A:Option Addr) (u:List Ru):Prop:=u=[]∨∃ ad,A=some ad∧P ad.block∧KidRL P w ad 0 u
theorem kidC_eq {P:Nat→Prop} {w:World} {k:Lk} {c:Cm}:KidC P w k c ↔ RdP P w k.p c.parts∧KidsX P w k.x c.cond∧RowC P w k.b c.body∧RowC P w k.e c.els∧RowU P w k.u c.rules:=by cases c;rw[KidC];exact Iff.rfl
theorem kidR_eq {P:Nat→Prop} {w:World} {A:Option Addr} {r:Ru}:KidR P w A r ↔ RowC P w A r.body:=by cases r;rw[KidR];exact Iff.rfl
theorem kidCL_iff {P:Nat→Prop} {w:World} {ad:Addr}:∀ {l:List Cm} {i:Nat},KidCL P w ad i l ↔ ∀ j c,l[j]?=some c→∃ k,LieL w (ad.add ((i+j) * 13)) (cellsC c k)∧KidC P w k c
 | [],i=>by rw[KidCL];simp
 | x::l,i=>by
   rw[KidCL,kidCL_iff (l:=l)]
   constructor
   ·rintro⟨h0,h⟩ j c hj
    cases j with
    | zero=>injection hj with hj;subst hj;exact h0
    | succ j=>have:=h j c (by simpa using hj);rwa [show i+1+j=i+(j+1) by omega] at this
   ·intro h
    refine⟨h 0 x rfl,fun j c hj=>?_⟩;have:=h (j+1) c (by simpa using hj);rwa [show i+(j+1)=i+1+j by omega] at this
theorem kidRL_iff {P:Nat→Prop} {w:World} {ad:Addr}:∀ {l:List Ru} {i:Nat},KidRL P w ad i l ↔ ∀ j r,l[j]?=some r→∃ A c,LieL w (ad.add ((i+j) * 6)) (cellsR r A c)∧KidR P w A r
 | [],i=>by rw[KidRL];simp
 | x::l,i=>by
   rw[KidRL,kidRL_iff (l:=l)]
   constructor
   ·rintro⟨h0,h⟩ j c hj
    cases j with
    | zero=>injection hj with hj;subst hj;exact h0
    | succ j=>have:=h j c (by simpa using hj);rwa [show i+1+j=i+(j+1) by omega] at this
   ·intro h
    refine⟨h 0 x rfl,fun j c hj=>?_⟩;have:=h (j+1) c (by simpa using hj);rwa [show i+(j+1)=i+1+j by omega] at this
theorem RdP.of {P Q:Nat→Prop} {w w':World} {A:Option Addr} {ps:List Pt} (hs:∀ p:Addr,P p.block→w'.cell? p=w.cell? p) (hPQ:∀ k,P k→Q k) (h:RdP P w A ps):RdP Q w' A ps:=by
 rcases h with h | ⟨ad,e,hp,hl⟩
 ·exact .inl h
 ·exact .inr ⟨ad,e,hPQ _ hp,hl.keep fun p hpb=>hs p (by rw[hpb];exact hp)⟩
theorem rowC_up {P Q:Nat→Prop} {w w':World} {A:Option Addr} {b:List Cm} (hs:∀ p:Addr,P p.block→w'.cell? p=w.cell? p) (hPQ:∀ k,P k→Q k) (hb:∀ c∈b,∀ k,KidC P w k c→KidC Q w' k c) (h:RowC P w A b):RowC Q w' A b:=by
 rcases h with h | ⟨ad,e,hp,hl⟩
 ·exact .inl h
 ·refine .inr ⟨ad,e,hPQ _ hp,kidCL_iff.2 fun j c hj=>?_⟩
  obtain⟨k,h1,h2⟩:=kidCL_iff.1 hl j c hj;exact⟨k,h1.keep fun p hpb=>hs p (by rw[hpb,blockX_add];exact hp),hb c (List.mem_of_getElem? hj) k h2⟩
theorem rowU_up {P Q:Nat→Prop} {w w':World} {A:Option Addr} {b:List Ru} (hs:∀ p:Addr,P p.block→w'.cell? p=w.cell? p) (hPQ:∀ k,P k→Q k) (hb:∀ c∈b,∀ A,KidR P w A c→KidR Q w' A c) (h:RowU P w A b):RowU Q w' A b:=by
 rcases h with h | ⟨ad,e,hp,hl⟩
 ·exact .inl h
 ·refine .inr ⟨ad,e,hPQ _ hp,kidRL_iff.2 fun j c hj=>?_⟩
  obtain⟨A',c',h1,h2⟩:=kidRL_iff.1 hl j c hj;exact⟨A',c',h1.keep fun p hpb=>hs p (by rw[hpb,blockX_add];exact hp),hb c (List.mem_of_getElem? hj) A' h2⟩
theorem kids_of {P Q:Nat→Prop} {w w':World} (hs:∀ p:Addr,P p.block→w'.cell? p=w.cell? p) (hPQ:∀ k,P k→Q k):(∀ (c:Cm) (k:Lk),KidC P w k c→KidC Q w' k c)∧∀ (r:Ru) (A:Option Addr),KidR P w A r→KidR Q w' A r:=by
 refine Cm.ind2 (P:=fun c=>∀ k:Lk,KidC P w k c→KidC Q w' k c) (Q:=fun r=>∀ A:Option Addr,KidR P w A r→KidR Q w' A r) ?_ ?_
 ·intro k nm n ps x b e u p hb he hu lk h
  rw[kidC_eq] at h ⊢;obtain⟨h1,h2,h3,h4,h5⟩:=h;exact⟨h1.of hs hPQ,kidsX_of hs hPQ _ _ h2,rowC_up hs hPQ hb h3,rowC_up hs hPQ he h4,rowU_up hs hPQ hu h5⟩
 ·intro k q pk pt b p hb A h
  rw[kidR_eq] at h ⊢;exact rowC_up hs hPQ hb h
theorem KidC.of {P Q:Nat→Prop} {w w':World} {k:Lk} {c:Cm} (h:KidC P w k c) (hs:∀ p:Addr,P p.block→w'.cell? p=w.cell? p) (hPQ:∀ k,P k→Q k):KidC Q w' k c:=(kids_of hs hPQ).1 c k h
theorem KidR.of {P Q:Nat→Prop} {w w':World} {A:Option Addr} {r:Ru} (h:KidR P w A r) (hs:∀ p:Addr,P p.block→w'.cell? p=w.cell? p) (hPQ:∀ k,P k→Q k):KidR Q w' A r:=(kids_of hs hPQ).2 r A h
theorem RowC.of {P Q:Nat→Prop} {w w':World} {A:Option Addr} {b:List Cm} (h:RowC P w A b) (hs:∀ p:Addr,P p.block→w'.cell? p=w.cell? p) (hPQ:∀ k,P k→Q k):RowC Q w' A b:=rowC_up hs hPQ (fun _ _ _ h=>h.of hs hPQ) h
theorem RowU.of {P Q:Nat→Prop} {w w':World} {A:Option Addr} {b:List Ru} (h:RowU P w A b) (hs:∀ p:Addr,P p.block→w'.cell? p=w.cell? p) (hPQ:∀ k,P k→Q k):RowU Q w' A b:=rowU_up hs hPQ (fun _ _ _ h=>h.of hs hPQ) h
theorem KidC.next {w w':World} {k:Lk} {c:Cm} (h:KidC (LtX w.heap.size) w k c) (hb:Below w.heap.size w w'):KidC (LtX w'.heap.size) w' k c:=h.of (fun _ h=>hb.cell h) (fun _ h=>Nat.lt_of_lt_of_le h hb.size)
theorem RowC.next {w w':World} {A:Option Addr} {b:List Cm} (h:RowC (LtX w.heap.size) w A b) (hb:Below w.heap.size w w'):RowC (LtX w'.heap.size) w' A b:=h.of (fun _ h=>hb.cell h) (fun _ h=>Nat.lt_of_lt_of_le h hb.size)
theorem rdP_rd {B:Nat} {w:World} {A:Option Addr} {ps:List Pt}:RdP (LtX B) w A ps ↔ Rd B w A ps.length ps:=by
 constructor
 ·rintro(rfl | ⟨ad,e,hp,hl⟩)
  ·exact⟨rfl,fun h=>absurd h (by simp)⟩
  ·exact⟨rfl,fun _=>⟨ad,e,hp,hl⟩⟩
 ·rintro⟨_,h⟩
  by_cases c:ps=[]
  ·exact .inl c
  ·obtain⟨ad,e,h1,h2⟩:=h (List.length_pos_iff.2 c)
   exact .inr ⟨ad,e,h1,h2⟩
structure BoxL (w:World) (c:Nat) (vs:List Value):Prop where
 at_:∀ j u,vs[j]?=some u→w.cell? ⟨c,j,none⟩=some u
 fr:∀ j,j<vs.length→w.frozen? ⟨c,j,none⟩=false
theorem BoxL.new (w:World) (T:TypeId) (vs:List Value):BoxL (w.alloc (.cells vs.toArray T)) w.heap.size vs:=
 ⟨fun j u h=>new_at w T vs.toArray j u (by simpa using h),fun j hj=>by simp[go_sem]⟩
theorem BoxL.lt {w:World} {c:Nat} {vs:List Value} (h:BoxL w c vs) (hv:0<vs.length):c<w.heap.size:=World.block_lt_of_cell? w _ (h.at_ 0 vs[0] (List.getElem?_eq_getElem hv))
theorem BoxL.grown {b c:Nat} {w w':World} {vs:List Value} (h:BoxL w c vs) (hv:0<vs.length) (hg:w.grownBy w' (some b)) (hn:c≠b):BoxL w' c vs:=by
 have e:w'.heap[c]?=w.heap[c]?:=hg.block c (h.lt hv) (fun e=>hn (by injection e));exact⟨fun j u hu=>(World.cell?_of_block (a:=⟨c,j,none⟩) e).trans (h.at_ j u hu),fun j hj=>(World.frozen?_of_block (a:=⟨c,j,none⟩) e).trans (h.fr j hj)⟩
theorem BoxL.low {c:Nat} {w w':World} {vs:List Value} (h:BoxL w c vs) (hv:0<vs.length) (hb:Below w.heap.size w w'):BoxL w' c vs:=h.grown hv (b:=c+1) (grown_below hb) (by omega)
theorem BoxL.other {w:World} {c:Nat} {vs:List Value} (h:BoxL w c vs) {a:Addr} (ha:a.block≠c) (u:Value):BoxL (w.setCell a u) c vs:=
 ⟨fun j v hv=>(World.cell?_setCell_other _ _ _ _ (fun e=>ha (by rw[e]))).trans (h.at_ j v hv),fun j hj=>(World.frozen?_setCell ..).trans (h.fr j hj)⟩
theorem BoxL.set {w:World} {c:Nat} {vs:List Value} (h:BoxL w c vs) (j:Nat) (hj:j<vs.length) (u:Value):BoxL (w.setCell ⟨c,j,none⟩ u) c (vs.set j u):=by
 refine⟨fun i v hv=>?_,fun i hi=>(World.frozen?_setCell ..).trans (h.fr i (by simpa using hi))⟩;by_cases e:j=i
 ·subst e
  rw[List.getElem?_set_self hj] at hv;injection hv with hv
  subst hv;exact set_same _ _ _ _ _ (h.at_ j _ (List.getElem?_eq_getElem hj))
 ·rw[List.getElem?_set_ne e] at hv
  rw[set_ne _ _ _ _ _ e];exact h.at_ i v hv
section
section
variable {b:Nat} {w w':World} {A:Option Addr} {n c:Nat} {l:List Tok} {k o:Nat}
end
def nxo (l:List Tok) (k o:Nat):Tok:=if o=0 then nxz l k else tokZ
theorem neq0_f {a:Nat} (h:¬ a=0):((a:Int)==0)=false∧(a==0)=false∧((a:Int) != 0)=true∧(a != 0)=true:=by
 refine⟨?_,?_,?_,?_⟩ <;> simp <;> omega
def isO (l:List Tok) (kd:Int) (s:Bs) (k o:Nat):Bool:=decide ((nxo l k o).kind=kd∧(nxo l k o).word=s)
theorem isO_zero (l:List Tok) (kd:Int) (s:Bs) (k:Nat):isO l kd s k 0=isT l kd s k:=rfl
theorem isO_bad (l:List Tok) {kd:Int} (hk:kd≠0) (s:Bs) (k:Nat) {o:Nat} (ho:¬ o=0):isO l kd s k o=false:=by
 unfold isO nxo;rw[if_neg ho];exact decide_eq_false fun e=>hk e.1.symm
theorem bytes_eq {t:Bs} {S W:ByteArray} (hS:S=⟨t.toArray⟩):(t=W.data.toList) ↔ S=W:=by
 subst hS
 constructor
 ·rintro rfl;rfl
 ·rintro rfl;rfl
end
section
theorem toList_ne {S W:ByteArray} (h:¬ S=W):(S.toList==W.toList)=false:=by
 rw[toList_data,toList_data];apply beq_false_of_ne;intro e;apply h
 cases S;cases W
 congr 1
 exact Array.toList_inj.1 e
theorem isO_lt {l:List Tok} {kd:Int} {s:Bs} {k o:Nat} (hk:kd≠0) (h:isO l kd s k o=true):o=0∧isT l kd s k=true:=by
 by_cases ho:o=0
 ·subst ho;exact⟨rfl,h⟩
 ·rw[isO_bad l hk s k ho] at h;cases h
section
variable {b:Nat} {w W W':World} {A:Option Addr} {n c:Nat} {l:List Tok} {k o k' o':Nat} {bs:List (Nat × List Value)}
end
theorem Rd.back {B:Nat} {w w':World} {A:Option Addr} {n:Nat} {ps:List Pt} (h:Rd B w' A n ps) (hb:Below B w w'):Rd B w A n ps:=
 ⟨h.1,fun hn=>by obtain⟨ad,e,hr⟩:=h.2 hn;exact⟨ad,e,hr.1,fun j u hu=>(hb.cell (by rw[block_of_add];exact hr.1)).symm.trans (hr.2 j u hu)⟩⟩
theorem tokF2 (k n pl:Int) (S:ByteArray) (A:Option Addr) (m c:Nat) (w:World):(Instr.field 105 (.agg #[.int .i64 k,.string S,.int .i64 n,.slice A m c,.int .i64 pl]) 2).run Tryz.prog w= .ok (.int .i64 n) w:=by kernel_rfl
theorem tokF3 (k n pl:Int) (S:ByteArray) (A:Option Addr) (m c:Nat) (w:World):(Instr.field 105 (.agg #[.int .i64 k,.string S,.int .i64 n,.slice A m c,.int .i64 pl]) 3).run Tryz.prog w= .ok (.slice A m c) w:=by kernel_rfl
theorem BoxL.all5 {w:World} {c:Nat} {v0 v1 v2 v3 v4:Value} (h:BoxL w c [v0,v1,v2,v3,v4]):w.cell? ⟨c,0,none⟩=some v0∧w.cell? ⟨c,1,none⟩=some v1∧w.cell? ⟨c,2,none⟩=some v2∧w.cell? ⟨c,3,none⟩=some v3∧w.cell? ⟨c,4,none⟩=some v4:=
 ⟨h.at_ 0 _ rfl,h.at_ 1 _ rfl,h.at_ 2 _ rfl,h.at_ 3 _ rfl,h.at_ 4 _ rfl⟩
theorem BoxL.fre5 {w:World} {c:Nat} {v0 v1 v2 v3 v4:Value} (h:BoxL w c [v0,v1,v2,v3,v4]):w.frozen? ⟨c,0,none⟩=false∧w.frozen? ⟨c,1,none⟩=false∧w.frozen? ⟨c,2,none⟩=false∧w.frozen? ⟨c,3,none⟩=false∧w.frozen? ⟨c,4,none⟩=false:=
 ⟨h.fr 0 (by simp),h.fr 1 (by simp),h.fr 2 (by simp),h.fr 3 (by simp),h.fr 4 (by simp)⟩
theorem BoxL.all6 {w:World} {c:Nat} {v0 v1 v2 v3 v4 v5:Value} (h:BoxL w c [v0,v1,v2,v3,v4,v5]):w.cell? ⟨c,0,none⟩=some v0∧w.cell? ⟨c,1,none⟩=some v1∧w.cell? ⟨c,2,none⟩=some v2∧w.cell? ⟨c,3,none⟩=some v3∧w.cell? ⟨c,4,none⟩=some v4∧w.cell? ⟨c,5,none⟩=some v5:=
 ⟨h.at_ 0 _ rfl,h.at_ 1 _ rfl,h.at_ 2 _ rfl,h.at_ 3 _ rfl,h.at_ 4 _ rfl,h.at_ 5 _ rfl⟩
theorem BoxL.fre6 {w:World} {c:Nat} {v0 v1 v2 v3 v4 v5:Value} (h:BoxL w c [v0,v1,v2,v3,v4,v5]):w.frozen? ⟨c,0,none⟩=false∧w.frozen? ⟨c,1,none⟩=false∧w.frozen? ⟨c,2,none⟩=false∧w.frozen? ⟨c,3,none⟩=false∧w.frozen? ⟨c,4,none⟩=false∧w.frozen? ⟨c,5,none⟩=false:=
 ⟨h.fr 0 (by simp),h.fr 1 (by simp),h.fr 2 (by simp),h.fr 3 (by simp),h.fr 4 (by simp),h.fr 5 (by simp)⟩
theorem BoxL.all13 {w:World} {c:Nat} {v0 v1 v2 v3 v4 v5 v6 v7 v8 v9 v10 v11 v12:Value} (h:BoxL w c [v0,v1,v2,v3,v4,v5,v6,v7,v8,v9,v10,v11,v12]):w.cell? ⟨c,0,none⟩=some v0∧w.cell? ⟨c,1,none⟩=some v1∧w.cell? ⟨c,2,none⟩=some v2∧w.cell? ⟨c,3,none⟩=some v3∧w.cell? ⟨c,4,none⟩=some v4∧w.cell? ⟨c,5,none⟩=some v5∧w.cell? ⟨c,6,none⟩=some v6∧w.cell? ⟨c,7,none⟩=some v7∧w.cell? ⟨c,8,none⟩=some v8∧w.cell? ⟨c,9,none⟩=some v9∧w.cell? ⟨c,10,none⟩=some v10∧w.cell? ⟨c,11,none⟩=some v11∧w.cell? ⟨c,12,none⟩=some v12:=
 ⟨h.at_ 0 _ rfl,h.at_ 1 _ rfl,h.at_ 2 _ rfl,h.at_ 3 _ rfl,h.at_ 4 _ rfl,h.at_ 5 _ rfl,h.at_ 6 _ rfl,h.at_ 7 _ rfl,h.at_ 8 _ rfl,h.at_ 9 _ rfl,h.at_ 10 _ rfl,h.at_ 11 _ rfl,h.at_ 12 _ rfl⟩
theorem BoxL.fre13 {w:World} {c:Nat} {v0 v1 v2 v3 v4 v5 v6 v7 v8 v9 v10 v11 v12:Value} (h:BoxL w c [v0,v1,v2,v3,v4,v5,v6,v7,v8,v9,v10,v11,v12]):w.frozen? ⟨c,0,none⟩=false∧w.frozen? ⟨c,1,none⟩=false∧w.frozen? ⟨c,2,none⟩=false∧w.frozen? ⟨c,3,none⟩=false∧w.frozen? ⟨c,4,none⟩=false∧w.frozen? ⟨c,5,none⟩=false∧w.frozen? ⟨c,6,none⟩=false∧w.frozen? ⟨c,7,none⟩=false∧w.frozen? ⟨c,8,none⟩=false∧w.frozen? ⟨c,9,none⟩=false∧w.frozen? ⟨c,10,none⟩=false∧w.frozen? ⟨c,11,none⟩=false∧w.frozen? ⟨c,12,none⟩=false:=
 ⟨h.fr 0 (by simp),h.fr 1 (by simp),h.fr 2 (by simp),h.fr 3 (by simp),h.fr 4 (by simp),h.fr 5 (by simp),h.fr 6 (by simp),h.fr 7 (by simp),h.fr 8 (by simp),h.fr 9 (by simp),h.fr 10 (by simp),h.fr 11 (by simp),h.fr 12 (by simp)⟩
end
abbrev zeroT:List Value:=[.int .i64 0,.string ⟨#[]⟩,.int .i64 0,.slice none 0 0,.int .i64 0]
section
section
variable {b:Nat} {A:Option Addr} {n c:Nat} {l:List Tok}
theorem wrap_neg {z:Int} (h:0≤z∧z≤9223372036854775807):wrap64 (-z)= -z:=by
 exact IntWalk.wrap64_in _ (by omega)
end
end
def formB:Nat→Int | 1=>5 | 2=>9 | 3=>3 | 4=>56 | 5=>24 | 6=>17 | 7=>1 | 8=>2 | 9=>2 | 10=>4 | 11=>2 | 12=>64 | 13=>64 | 14=>64 | _=>0
theorem sform_any (j:Nat) (hj:1≤j∧j≤16) (w:World):Calls Tryz.prog 104 #[.int .i64 j] w fun e w'=>e= .returned (.tuple #[.string ⟨(wordsC.getD (j - 1) []).toArray⟩,.int .i64 (formB j)])∧w=w':=by
 have h:j=1∨j=2∨j=3∨j=4∨j=5∨j=6∨j=7∨j=8∨j=9∨j=10∨j=11∨j=12∨j=13∨j=14∨j=15∨j=16:=by omega
 rcases h with rfl | rfl | rfl | rfl | rfl | rfl | rfl | rfl | rfl | rfl | rfl | rfl | rfl | rfl | rfl | rfl
 all_goals
  go_enter Tryz.func104,Tryz.ntmps104;go_wp2
  go_ret2
  exact⟨rfl,rfl⟩
theorem gate_none {α:Type} {o k:Nat} {F:Nat→Rz α} (ho:o=0∨o=1∨o=8) (h:o=0→F k= .bad k false):(gate o k F).at=k∧(gate o k F).err=(if o=0 then 1 else o)∧∀ y j,gate o k F≠ .ok y j:=by
 rcases ho with rfl | ho
 ·rw[gate_ok,h rfl]
  exact⟨rfl,rfl,fun _ _ e=>by cases e⟩
 ·rw[if_neg (by omega)];exact⟨(gate_err ho).2,(gate_err ho).1,fun _ _=>gate_bad (by omega)⟩
theorem exR_spec {l:List Tok} {k:Nat} (hk:k≤l.length):RdE l (.some 1) k 0 (exR l k):=by
 have h:=read_some l k hk;unfold exR;rw[dif_pos h];exact h.choose_spec
theorem isName_short {w:Bs} (h:isName w=true):w.length≤8∧w≠[]:=by
 unfold isName at h;simp at h;refine⟨?_,h.1⟩;rw[←h.2];exact(nameLen_le w).2
theorem isWordL_short {w:Bs} (h:isWordL w=true):w.length≤14:=by
 cases w with
 | nil=>exact Nat.zero_le _
 | cons c r=>
   unfold isWordL at h;simp at h;simp;omega
theorem okT_short {t:Tok} (h:okT t=true):t.word.length≤200:=by
 unfold okT at h
 split at h
 ·simp at h;rw[h.1.1];exact Nat.zero_le _
 ·split at h
  ·simp at h;rw[h.1.1];exact Nat.zero_le _
  ·simp at h
   have h:=h.1.1;unfold mayW at h
   split at h
   ·have:=isWordL_short h;omega
   ·split at h
    ·unfold isSignL at h
     simp[sgns] at h
     rcases h with h | h | h | h | h | h | h | h | h | h | h | h | h | h | h | h | h | h <;> (rw[h];decide)
    ·split at h
     ·unfold isFlagL at h
      simp at h
      rcases h with h | h | h | h <;> (rw[h];decide)
     ·split at h
      ·have:=(isName_short h).1;omega
      ·cases h
abbrev zeroXs:List Value:=[.int .i64 0,.int .i64 0,.string ⟨#[]⟩,.string ⟨#[]⟩,.slice none 0 0]
theorem need_yes {l:List Tok} {kd:Int} {s:Bs} {k:Nat} (h:isO l kd s k 0=true):gate 0 k (needF l kd s)= .ok () (k+1):=by rw[gate_ok];unfold needF;rw[if_pos (show isT l kd s k=true from h)]
theorem need_no {l:List Tok} {kd:Int} {s:Bs} {k o:Nat} (ho:o=0∨o=1∨o=8) (h:isO l kd s k o=false):(gate o k (needF l kd s)).at=k∧(gate o k (needF l kd s)).err=(if o=0 then 1 else o)∧∀ y j,gate o k (needF l kd s)≠ .ok y j:=gate_none ho fun ho=>by
 subst ho;unfold needF;rw[if_neg (by rw[←isO_zero,h];decide)]
abbrev cellsX (x:Ex) (A:Option Addr) (c:Nat):List Value:=[.int .i64 x.kind,.int .i64 x.n,.string ⟨x.name.toArray⟩,.string ⟨x.op.toArray⟩,.slice A x.kids.length c]
theorem KidsX.putQ {m hi:Nat} {W:World} {A:Option Addr} {x:Ex} (h:KidsX (FrX (m+1) hi) W A x) (hh:hi≤W.heap.size) (v0 v1 v2 v3 v4:Value):
  KidsX (FrX m (((((W.setCell ⟨m,0,none⟩ v0).setCell ⟨m,1,none⟩ v1).setCell ⟨m,2,none⟩ v2).setCell ⟨m,3,none⟩ v3).setCell ⟨m,4,none⟩ v4).heap.size) (((((W.setCell ⟨m,0,none⟩ v0).setCell ⟨m,1,none⟩ v1).setCell ⟨m,2,none⟩ v2).setCell ⟨m,3,none⟩ v3).setCell ⟨m,4,none⟩ v4) A x:=
 (h.put5 (c:=m) (fun hp=>by have:=hp.1;omega) v0 v1 v2 v3 v4).to (Nat.le_succ _) (by have:=size_put5 W m v0 v1 v2 v3 v4;unfold Go.Proofs.YtfgcdppebeojbaaGreatDoor.put5 at this;rw[this];exact hh)
theorem gate_seq {α β:Type} (o k:Nat) (F:Nat→Rz α) (G:α→Nat→Rz β):gate o k (fun k=>(F k).then G)=(gate o k F).then G:=by unfold gate;split <;> rfl
theorem then_seq {α β γ:Type} {R:Rz α} {x:α} (hx:∀ y j,R= .ok y j→y=x) (F:Nat→Rz β) (G:α→β→Nat→Rz γ):(R.then fun y i=>(F i).then (G y))=(gate R.err R.at F).then (G x):=by
 cases R with
 | ok y j=>rw[←hx y j rfl];rfl
 | bad j d=>cases d <;> rfl
theorem then_last {α β:Type} {R:Rz α} {x:α} (hx:∀ y j,R= .ok y j→y=x) (g:α→β):(R.then fun y j=> .ok (g y) j).at=R.at∧(R.then fun y j=> .ok (g y) j).err=R.err∧∀ y j,(R.then fun y j=> .ok (g y) j)= .ok y j→y=g x∧R= .ok x j:=by
 cases R with
 | ok y j=>rw[←hx y j rfl];exact⟨rfl,rfl,fun z i h=>by injection h with h1 h2;subst h1 h2;exact⟨rfl,rfl⟩⟩
 | bad j d=>exact⟨rfl,rfl,fun z i h=>by cases h⟩
theorem unit_eq {R:Rz Unit}:∀ y j,R= .ok y j→y=():=fun _ _ _=>rfl
def NwX (b lo hi:Nat):Nat→Prop:=fun q=>q<b∨(lo≤q∧q<hi)
theorem NwX.wide {b lo hi lo' hi':Nat} (h1:lo'≤lo) (h2:hi≤hi'):∀ q,NwX b lo hi q→NwX b lo' hi' q:=fun _ h=>h.imp id fun h=>⟨Nat.le_trans h1 h.1,Nat.lt_of_lt_of_le h.2 h2⟩
theorem NwX.cell {b lo hi:Nat} {w w':World} (hg:w.grownBy w' (some b)) (hb:b<lo) (hh:hi≤w.heap.size) (hl:lo≤w.heap.size):∀ p:Addr,NwX b lo hi p.block→w'.cell? p=w.cell? p:=fun p hp=>
 World.cell?_of_block (hg.block p.block (by rcases hp with h | h <;> omega) (fun e=>by injection e with e;rcases hp with h | h <;> omega))
theorem braceF_ok {l:List Tok} {d k:Nat} {u:Unit} {j:Nat} (h:braceF l d k= .ok u j):j=k+1∧d≠16:=by
 unfold braceF at h
 split at h
 ·cases h
 ·rename_i hn
  unfold needF at h
  split at h
  ·rename_i ht
   injection h with _ h
   exact⟨h.symm,fun e=>hn ⟨e,ht⟩⟩
  ·cases h
theorem gate_zero {α:Type} {o k:Nat} {F:Nat→Rz α} (ho:o=0∨o=1∨o=8) (h:(gate o k F).err=0):o=0∧∃ x,F k= .ok x (gate o k F).at:=by
 rcases ho with rfl | ho
 ·refine⟨rfl,?_⟩
  rw[gate_ok] at h ⊢
  cases hf:F k with
  | ok x j=>exact⟨x,rfl⟩
  | bad j d=>rw[hf] at h;cases d <;> simp[Rz.err] at h
 ·rw[(gate_err ho).1] at h;omega
abbrev zeroR:List Value:=[.int .i64 0,.int .i64 0,.int .i64 0,.string ⟨#[]⟩,.slice none 0 0,.int .i64 0]
theorem NwX.set {b lo hi m:Nat} {W:World} {u:Value} {i:Nat} (hm:m<lo) (hb:b≤m):∀ p:Addr,NwX b lo hi p.block→(W.setCell ⟨m,i,none⟩ u).cell? p=W.cell? p:=fun p hp=>
 World.cell?_of_block (Below.heap_setCell _ _ _ _ (by show p.block≠m;rcases hp with h | h <;> omega))
theorem RowC.box6 {b lo hi m:Nat} {W:World} {A:Option Addr} {xs:List Cm} (h:RowC (NwX b lo hi) W A xs) (hm:m<lo) (hb:b≤m) (v0 v1 v2 v3 v4 v5:Value):
  RowC (NwX b lo hi) ((((((W.setCell ⟨m,0,none⟩ v0).setCell ⟨m,1,none⟩ v1).setCell ⟨m,2,none⟩ v2).setCell ⟨m,3,none⟩ v3).setCell ⟨m,4,none⟩ v4).setCell ⟨m,5,none⟩ v5) A xs:=
 (((((h.of (NwX.set hm hb) fun _ h=>h).of (NwX.set hm hb) fun _ h=>h).of (NwX.set hm hb) fun _ h=>h).of (NwX.set hm hb) fun _ h=>h).of (NwX.set hm hb) fun _ h=>h).of (NwX.set hm hb) fun _ h=>h
theorem then_known {α β:Type} {R:Rz α} {f:α→Nat→Rz β} {g:Nat→Rz β} (h:∀ y j,R= .ok y j→f y j=g j):R.then f=gate R.err R.at g:=by
 cases R with
 | ok y j=>exact h y j rfl
 | bad j d=>cases d <;> rfl
section
theorem add_addX (a:Addr) (m n:Nat):(a.add m).add n=a.add (m+n):=by
 unfold Addr.add;by_cases h1:m=0
 ·subst h1;simp
 ·by_cases h2:n=0
  ·subst h2;simp
  ·simp[h1,h2];omega
def OwX (b lo hi:Nat) (g:Option Nat):Nat→Prop:=fun q=>q<b∨(lo≤q∧q<hi∧g≠some q)
def Mono {α:Type} (KP:(Nat→Prop)→World→α→Prop):Prop:=∀ (P Q:Nat→Prop) (w w':World) (x:α),(∀ p:Addr,P p.block→w'.cell? p=w.cell? p)→(∀ k,P k→Q k)→KP P w x→KP Q w' x
section
variable {α:Type} {cf:α→List Value} {s e:Nat} {KP:(Nat→Prop)→World→α→Prop} {b:Nat} {w W W':World} {A:Option Addr} {n c:Nat} {l:List Tok} {k o k' o':Nat} {v:Value} {es:List α}
theorem OwX.of_new {b lo m hi:Nat} {g:Option Nat} (hlo:lo≤m) (hg:∀ q,g=some q→q<m):∀ q,NwX b m hi q→OwX b lo hi g q:=fun q hq=>hq.imp id fun h=>⟨by omega,h.2,fun e=>by have:=hg q e;omega⟩
theorem OwX.all {b lo hi:Nat} {g:Option Nat}:∀ q,OwX b lo hi g q→NwX b lo hi q:=fun _ hq=>hq.imp id fun h=>⟨h.1,h.2.1⟩
end
abbrev XC:=Cm × Lk
abbrev cfC (x:XC):List Value:=cellsC x.1 x.2
abbrev KPC (P:Nat→Prop) (w:World) (x:XC):Prop:=KidC P w x.2 x.1
theorem monoC:Mono KPC:=fun _ _ _ _ _ hs hPQ h=>h.of hs hPQ
abbrev XU:=Ru × Option Addr × Nat
abbrev cfU (x:XU):List Value:=cellsR x.1 x.2.1 x.2.2
abbrev KPU (P:Nat→Prop) (w:World) (x:XU):Prop:=KidR P w x.2.1 x.1
theorem monoU:Mono KPU:=fun _ _ _ _ _ hs hPQ h=>h.of hs hPQ
theorem flat_at {α:Type} {cf:α→List Value} {s:Nat} (hs:∀ x,(cf x).length=s):∀ (es:List α) (j:Nat) (x:α),es[j]?=some x→∀ i u,(cf x)[i]?=some u→(es.flatMap cf)[j * s+i]?=some u
 | [],j,x,h,_,_,_=>by simp at h
 | y::es,0,x,h,i,u,hu=>by
   injection h with h;subst h
   rw[List.flatMap_cons,List.getElem?_append_left (by rw[Nat.zero_mul,Nat.zero_add];exact(List.getElem?_eq_some_iff.1 hu).1),Nat.zero_mul,Nat.zero_add];exact hu
 | y::es,j+1,x,h,i,u,hu=>by
   have:=flat_at hs es j x (by simpa using h) i u hu;rw[List.flatMap_cons,List.getElem?_append_right (by rw[hs,Nat.add_mul];omega),hs,show (j+1) * s+i - s=j * s+i by rw[Nat.add_mul];omega];exact this
theorem infoC:(Tryz.prog.info? 67).map (fun i=>(i.zero,i.size,i.bytes))=some (some (.agg #[.int .i64 0,.string ⟨#[]⟩,.int .i64 0,.slice none 0 0,.int .i64 0,.int .i64 0,.string ⟨#[]⟩,.string ⟨#[]⟩,.slice none 0 0,.slice none 0 0,.slice none 0 0,.slice none 0 0,.int .i64 0]),13,208):=by kernel_rfl
theorem infoU:(Tryz.prog.info? 90).map (fun i=>(i.zero,i.size,i.bytes))=some (some (.agg #[.int .i64 0,.int .i64 0,.int .i64 0,.string ⟨#[]⟩,.slice none 0 0,.int .i64 0]),6,72):=by kernel_rfl
theorem oneC (x:XC):∀ u∈cfC x,u.oneCell'=true:=by
 intro u hu;simp only[cfC,cellsC,List.mem_cons,List.not_mem_nil,or_false] at hu
 rcases hu with rfl | rfl | rfl | rfl | rfl | rfl | rfl | rfl | rfl | rfl | rfl | rfl | rfl <;> rfl
theorem oneU (x:XU):∀ u∈cfU x,u.oneCell'=true:=by
 intro u hu;simp only[cfU,cellsR,List.mem_cons,List.not_mem_nil,or_false] at hu
 rcases hu with rfl | rfl | rfl | rfl | rfl | rfl <;> rfl
end
def restF (l:List Tok) (blk:Nat→Nat→Rz (List Cm)) (d N k:Nat):Rz (List Ru):=if isT l 4 [125] k then .ok [] (k+1) else rulesL l blk d N k
theorem rulesL_rest (l:List Tok) (blk:Nat→Nat→Rz (List Cm)) (d N k:Nat):rulesL l blk d (N+1) k=(ruleF l blk d k).then fun r i=>(restF l blk d N i).then fun rs m=> .ok (r::rs) m:=by
 rw[rulesL]
 congr 1
 funext r i
 unfold restF
 split <;> rfl
section
abbrev zeroC:List Value:=[.int .i64 0,.string ⟨#[]⟩,.int .i64 0,.slice none 0 0,.int .i64 0,.int .i64 0,.string ⟨#[]⟩,.string ⟨#[]⟩,.slice none 0 0,.slice none 0 0,.slice none 0 0,.slice none 0 0,.int .i64 0]
def MonoP (RP:(Nat→Prop)→World→Prop):Prop:=∀ (P Q:Nat→Prop) (w w':World),(∀ p:Addr,P p.block→w'.cell? p=w.cell? p)→(∀ k,P k→Q k)→RP P w→RP Q w'
def Hd (b q:Nat) (RP:(Nat→Prop)→World→Prop) (W:World):Prop:=∃ lo hi,b<lo∧q<lo∧lo≤hi∧hi≤W.heap.size∧RP (NwX b lo hi) W
section
variable {b q:Nat} {RP:(Nat→Prop)→World→Prop} {W W':World}
theorem Hd.put (h:Hd b q RP W) (hm:MonoP RP) {p:Nat} (hp:p≤q) (hb:b≤p) (j:Nat) (u:Value):Hd b q RP (W.setCell ⟨p,j,none⟩ u):=by
 obtain⟨lo,hi,h1,h2,h3,h4,h5⟩:=h;exact⟨lo,hi,h1,h2,h3,by simpa[World.setCell] using h4,hm _ _ W _ (NwX.set (by omega) hb) (fun _ h=>h) h5⟩
theorem Hd.call (h:Hd b q RP W) (hm:MonoP RP) (hg:W.grownBy W' (some b)):Hd b q RP W':=by
 obtain⟨lo,hi,h1,h2,h3,h4,h5⟩:=h;exact⟨lo,hi,h1,h2,h3,Nat.le_trans h4 hg.size,hm _ _ W _ (NwX.cell hg h1 h4 (by omega)) (fun _ h=>h) h5⟩
theorem Hd.put13 (h:Hd b q RP W) (hm:MonoP RP) {p:Nat} (hp:p≤q) (hb:b≤p) (v0 v1 v2 v3 v4 v5 v6 v7 v8 v9 v10 v11 v12:Value):
  Hd b q RP (((((((((((((W.setCell ⟨p,0,none⟩ v0).setCell ⟨p,1,none⟩ v1).setCell ⟨p,2,none⟩ v2).setCell ⟨p,3,none⟩ v3).setCell ⟨p,4,none⟩ v4).setCell ⟨p,5,none⟩ v5).setCell ⟨p,6,none⟩ v6).setCell ⟨p,7,none⟩ v7).setCell ⟨p,8,none⟩ v8).setCell ⟨p,9,none⟩ v9).setCell ⟨p,10,none⟩ v10).setCell ⟨p,11,none⟩ v11).setCell ⟨p,12,none⟩ v12):=
 ((((((((((((h.put hm hp hb 0 v0).put hm hp hb 1 v1).put hm hp hb 2 v2).put hm hp hb 3 v3).put hm hp hb 4 v4).put hm hp hb 5 v5).put hm hp hb 6 v6).put hm hp hb 7 v7).put hm hp hb 8 v8).put hm hp hb 9 v9).put hm hp hb 10 v10).put hm hp hb 11 v11).put hm hp hb 12 v12
theorem Hd.fin (h:Hd b q RP W) (hm:MonoP RP) {lo:Nat} (hl:lo≤q):RP (NwX b lo W.heap.size) W:=by
 obtain⟨lo',hi,h1,h2,h3,h4,h5⟩:=h;exact hm _ _ W _ (fun _ _=>rfl) (NwX.wide (by omega) h4) h5
end
abbrev PtP (R:Rz Tok) (A:Option Addr) (ps:List Pt):(Nat→Prop)→World→Prop:=fun P W=>R.err=0→RdP P W A ps
abbrev ExP (R:Rz Ex) (A:Option Addr) (x:Ex):(Nat→Prop)→World→Prop:=fun P W=>R.err=0→KidsX P W A x
abbrev CsP (R:Rz (List Cm)) (A:Option Addr) (xs:List Cm):(Nat→Prop)→World→Prop:=fun P W=>R.err=0→RowC P W A xs
abbrev UsP (R:Rz (List Ru)) (A:Option Addr) (xs:List Ru):(Nat→Prop)→World→Prop:=fun P W=>R.err=0→RowU P W A xs
theorem monoPt (R:Rz Tok) (A:Option Addr) (ps:List Pt):MonoP (PtP R A ps):=fun _ _ _ _ hs hP h h0=>(h h0).of hs hP
theorem monoEx (R:Rz Ex) (A:Option Addr) (x:Ex):MonoP (ExP R A x):=fun _ _ _ _ hs hP h h0=>kidsX_of hs hP _ _ (h h0)
theorem monoCs (R:Rz (List Cm)) (A:Option Addr) (xs:List Cm):MonoP (CsP R A xs):=fun _ _ _ _ hs hP h h0=>(h h0).of hs hP
theorem monoUs (R:Rz (List Ru)) (A:Option Addr) (xs:List Ru):MonoP (UsP R A xs):=fun _ _ _ _ hs hP h h0=>(h h0).of hs hP
theorem hd_new {b q:Nat} {RP:(Nat→Prop)→World→Prop} {W W':World} (hb:b<W.heap.size) (hq:q<W.heap.size) (hz:W.heap.size≤W'.heap.size) (h:RP (NwX b W.heap.size W'.heap.size) W'):Hd b q RP W':=⟨W.heap.size,W'.heap.size,hb,hq,hz,Nat.le_refl _,h⟩
abbrev FofC (z:Int) (S:ByteArray) (f:Int):Prop:=Hid (∀ w',Calls Tryz.prog 104 #[.int .i64 z] w' fun e w2=>e= .returned (.tuple #[.string S,.int .i64 f])∧w'=w2)
theorem ok_of_err {α:Type} {R:Rz α} (h:R.err=0):∃ x j,R= .ok x j:=by
 cases R with
 | ok x j=>exact⟨x,j,rfl⟩
 | bad j d=>cases d <;> cases h
end
section
theorem fin3 {α γ:Type} {R:Rz γ} {Rl:Rz α} {x:α} {g:α→γ} (hx:∀ y j,Rl= .ok y j→y=x) (e:R=Rl.then fun y j=> .ok (g y) j):R.at=Rl.at∧R.err=Rl.err∧∀ y j,R= .ok y j→y=g x:=by
 have hm:=then_last hx g;rw[e];exact⟨hm.1,hm.2.1,fun y j h=>(hm.2.2 y j h).1⟩
section
variable {b:Nat} {A:Option Addr} {n c:Nat} {l:List Tok} {blk:Nat→Nat→Rz (List Cm)} {k0:Nat}
end
end
theorem scan_fitS (s:ByteArray) (hs:s.size≤250):(∃ q e,scan s.data.toList=(none,q,e)∧(e=1∨e=2∨e=3))∨∃ ts,scan s.data.toList=(some ts,0,0)∧FitL ts∧ts.length≤250:=by
 have hl:s.data.toList.length≤250:=by rw[len_data];omega
 rcases scan_cases s.data.toList with ⟨q,e,h,he,_⟩ | ⟨out,h,h1,h2,_⟩
 ·exact .inl ⟨q,e,h,he⟩
 ·exact .inr ⟨out,h,fitl_read h1 h2 (by omega),by omega⟩
noncomputable def ansS (ts:List Tok) (len:Nat):List Cm × Int × Int:=match allF ts with
 | .ok xs _=>(xs,0,0)
 | .bad j d=>([],if j<ts.length then (nxz ts j).pl else len,if d then 8 else 1)
noncomputable def parS (s:Bs):List Cm × Int × Int:=match scan s with
 | (none,q,e)=>([],q,e)
 | (some ts,_,_)=>ansS ts s.length
def ParP (w:World) (r:List Cm × Int × Int) (e:Ending) (w':World):Prop:=∃ A c,e= .returned (.tuple #[.slice A r.1.length c,.int .i64 r.2.1,.int .i64 r.2.2])∧Below w.heap.size w w'∧RowC (LtX w'.heap.size) w' A r.1
theorem LieL.at6 {w:World} {a:Addr} {v0 v1 v2 v3 v4 v5:Value} (h:LieL w a [v0,v1,v2,v3,v4,v5]):w.cell? a=some v0∧w.cell? ⟨a.block,a.off+1,none⟩=some v1∧w.cell? ⟨a.block,a.off+2,none⟩=some v2∧w.cell? ⟨a.block,a.off+3,none⟩=some v3∧w.cell? ⟨a.block,a.off+4,none⟩=some v4∧w.cell? ⟨a.block,a.off+5,none⟩=some v5:=by
 have h0:=h 0 _ rfl;rw[show a.add 0=a by simp[Addr.add]] at h0;have g:∀ i,0<i→a.add i=⟨a.block,a.off+i,none⟩:=fun i hi=>by unfold Addr.add;rw[if_neg (by omega)]
 exact⟨h0,by rw[←g 1 (by decide)];exact h 1 _ rfl,by rw[←g 2 (by decide)];exact h 2 _ rfl,by rw[←g 3 (by decide)];exact h 3 _ rfl,by rw[←g 4 (by decide)];exact h 4 _ rfl,by rw[←g 5 (by decide)];exact h 5 _ rfl⟩
theorem LieL.at13 {w:World} {a:Addr} {v0 v1 v2 v3 v4 v5 v6 v7 v8 v9 v10 v11 v12:Value} (h:LieL w a [v0,v1,v2,v3,v4,v5,v6,v7,v8,v9,v10,v11,v12]):w.cell? a=some v0∧w.cell? ⟨a.block,a.off+1,none⟩=some v1∧w.cell? ⟨a.block,a.off+2,none⟩=some v2∧w.cell? ⟨a.block,a.off+3,none⟩=some v3∧w.cell? ⟨a.block,a.off+4,none⟩=some v4∧w.cell? ⟨a.block,a.off+5,none⟩=some v5∧w.cell? ⟨a.block,a.off+6,none⟩=some v6∧w.cell? ⟨a.block,a.off+7,none⟩=some v7∧w.cell? ⟨a.block,a.off+8,none⟩=some v8∧w.cell? ⟨a.block,a.off+9,none⟩=some v9∧w.cell? ⟨a.block,a.off+10,none⟩=some v10∧w.cell? ⟨a.block,a.off+11,none⟩=some v11∧w.cell? ⟨a.block,a.off+12,none⟩=some v12:=by
 have h0:=h 0 _ rfl;rw[show a.add 0=a by simp[Addr.add]] at h0;have g:∀ i,0<i→a.add i=⟨a.block,a.off+i,none⟩:=fun i hi=>by unfold Addr.add;rw[if_neg (by omega)]
 exact⟨h0,by rw[←g 1 (by decide)];exact h 1 _ rfl,by rw[←g 2 (by decide)];exact h 2 _ rfl,by rw[←g 3 (by decide)];exact h 3 _ rfl,by rw[←g 4 (by decide)];exact h 4 _ rfl,by rw[←g 5 (by decide)];exact h 5 _ rfl,by rw[←g 6 (by decide)];exact h 6 _ rfl,by rw[←g 7 (by decide)];exact h 7 _ rfl,by rw[←g 8 (by decide)];exact h 8 _ rfl,by rw[←g 9 (by decide)];exact h 9 _ rfl,by rw[←g 10 (by decide)];exact h 10 _ rfl,by rw[←g 11 (by decide)];exact h 11 _ rfl,by rw[←g 12 (by decide)];exact h 12 _ rfl⟩
theorem rowC_at {w wr:World} {A:Option Addr} {b:List Cm} {x:Cm} {j:Nat} (h:RowC (LtX w.heap.size) w A b) (hb:Below w.heap.size w wr) (hx:b[j]?=some x):
  ∃ ad lk,A=some ad∧ad.block<w.heap.size∧LieL wr (ad.add (j * 13)) (cellsC x lk)∧KidC (LtX w.heap.size) w lk x:=by
 rcases h with h | ⟨ad,rfl,hp,hl⟩
 ·simp[h] at hx
 ·obtain⟨lk,h1,h2⟩:=kidCL_iff.1 hl j x hx
  rw[Nat.zero_add] at h1;exact⟨ad,lk,rfl,hp,h1.keep fun p hpb=>hb.cell (by rw[hpb,blockX_add];exact hp),h2⟩
theorem one_box13 (wr:World) (c1:List Value) (h1:0<c1.length) (T:TypeId):∀ W',Below (wr.alloc (.cells c1.toArray T)).heap.size (wr.alloc (.cells c1.toArray T)) W'→BoxL W' wr.heap.size c1:=fun _ hb=>(BoxL.new wr T c1).low h1 hb
end Go.Proofs.YtfgcdppebeojbaaGreatDoor
