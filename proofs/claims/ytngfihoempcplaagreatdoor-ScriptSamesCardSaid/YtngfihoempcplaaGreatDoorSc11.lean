import Derived.Test.YtngfihoempcplaaGreatDoorEx16
import Derived.Test.YtngfihoempcplaaGreatDoorNLaid
import Derived.Test.YtngfihoempcplaaGreatDoorPlainC
import Derived.Deep.RegionHeld3
import Derived.Test.YtngfihoempcplaaGreatDoorEx30
namespace Go.Proofs.YtngfihoempcplaaGreatDoor
open Go Go.RowKit
set_option maxRecDepth 100000
set_option maxHeartbeats 2000000
section
mutual
inductive Cm where
 | mk (kind:Int) (name:Bs) (n:Int) (parts:List Pt) (cond:Ex) (body els:List Cm) (rules:List Ru) (pl:Int):Cm
inductive Ru where
 | mk (kind peer pk:Int) (pt:Bs) (body:List Cm) (pl:Int):Ru
end
theorem Cm.ind2 {P:Cm→Prop} {Q:Ru→Prop} (h:∀ k nm n ps x b e u p,(∀ c∈b,P c)→(∀ c∈e,P c)→(∀ r∈u,Q r)→P (.mk k nm n ps x b e u p)) (h':∀ k q pk pt b p,(∀ c∈b,P c)→Q (.mk k q pk pt b p)):(∀ c,P c)∧∀ r,Q r:=by
 have hc:∀ (a:Cm) (l:List Cm),P a→(∀ c∈l,P c)→∀ c∈a::l,P c:=fun a l ha hl c hc=>by
  rcases List.mem_cons.1 hc with rfl | hc
  ·exact ha
  ·exact hl c hc
 have hr:∀ (a:Ru) (l:List Ru),Q a→(∀ c∈l,Q c)→∀ c∈a::l,Q c:=fun a l ha hl c hc=>by
  rcases List.mem_cons.1 hc with rfl | hc
  ·exact ha
  ·exact hl c hc
 refine⟨fun c=>?_,fun r=>?_⟩
 ·exact Cm.rec (motive_1:=P) (motive_2:=Q) (motive_3:=fun l=>∀ c∈l,P c) (motive_4:=fun l=>∀ r∈l,Q r)
   (fun k nm n ps x b e u p hb he hu=>h k nm n ps x b e u p hb he hu) (fun k q pk pt b p hb=>h' k q pk pt b p hb) (fun c hc=>by cases hc) (fun a l ha hl=>hc a l ha hl) (fun c hc=>by cases hc) (fun a l ha hl=>hr a l ha hl) c
 ·exact Ru.rec (motive_1:=P) (motive_2:=Q) (motive_3:=fun l=>∀ c∈l,P c) (motive_4:=fun l=>∀ r∈l,Q r)
   (fun k nm n ps x b e u p hb he hu=>h k nm n ps x b e u p hb he hu) (fun k q pk pt b p hb=>h' k q pk pt b p hb) (fun c hc=>by cases hc) (fun a l ha hl=>hc a l ha hl) (fun c hc=>by cases hc) (fun a l ha hl=>hr a l ha hl) r
def Cm.kind:Cm→Int | .mk k _ _ _ _ _ _ _ _=>k
def Cm.name:Cm→Bs | .mk _ nm _ _ _ _ _ _ _=>nm
def Cm.n:Cm→Int | .mk _ _ n _ _ _ _ _ _=>n
def Cm.parts:Cm→List Pt | .mk _ _ _ ps _ _ _ _ _=>ps
def Cm.cond:Cm→Ex | .mk _ _ _ _ x _ _ _ _=>x
def Cm.body:Cm→List Cm | .mk _ _ _ _ _ b _ _ _=>b
def Cm.els:Cm→List Cm | .mk _ _ _ _ _ _ e _ _=>e
def Cm.rules:Cm→List Ru | .mk _ _ _ _ _ _ _ u _=>u
def Cm.pl:Cm→Int | .mk _ _ _ _ _ _ _ _ p=>p
def Ru.kind:Ru→Int | .mk k _ _ _ _ _=>k
def Ru.peer:Ru→Int | .mk _ q _ _ _ _=>q
def Ru.pk:Ru→Int | .mk _ _ pk _ _ _=>pk
def Ru.pt:Ru→Bs | .mk _ _ _ pt _ _=>pt
def Ru.body:Ru→List Cm | .mk _ _ _ _ b _=>b
def Ru.pl:Ru→Int | .mk _ _ _ _ _ p=>p
inductive Rz (α:Type) where
 | ok (x:α) (j:Nat):Rz α
 | bad (j:Nat) (deep:Bool):Rz α
def Rz.at {α:Type}:Rz α→Nat | .ok _ j=>j | .bad j _=>j
def Rz.err {α:Type}:Rz α→Nat | .ok _ _=>0 | .bad _ d=>if d then 8 else 1
def Rz.then {α β:Type}:Rz α→(α→Nat→Rz β)→Rz β | .ok x j,f=>f x j | .bad j d,_=> .bad j d
def gate {α:Type} (o k:Nat) (F:Nat→Rz α):Rz α:=if o=0 then F k else .bad k (o==8)
theorem gate_ok {α:Type} (k:Nat) (F:Nat→Rz α):gate 0 k F=F k:=rfl
theorem Rz.err_cases {α:Type} (R:Rz α):R.err=0∨R.err=1∨R.err=8:=by
 cases R with
 | ok x j=>exact .inl rfl
 | bad j d=>cases d <;> simp[Rz.err]
theorem gate_err {α:Type} {o k:Nat} {F:Nat→Rz α} (ho:o=1∨o=8):(gate o k F).err=o∧(gate o k F).at=k:=by
 rcases ho with rfl | rfl <;> exact⟨rfl,rfl⟩
theorem gate_bad {α:Type} {o k:Nat} {F:Nat→Rz α} (ho:o≠0) {x:α} {j:Nat}:gate o k F≠ .ok x j:=by unfold gate;rw[if_neg ho];intro e;cases e
theorem Rz.then_assoc {α β γ:Type} (R:Rz α) (f:α→Nat→Rz β) (g:β→Nat→Rz γ):(R.then f).then g=R.then fun x j=>(f x j).then g:=by cases R <;> rfl
theorem Rz.then_ok {α β:Type} {R:Rz α} {f:α→Nat→Rz β} {y:β} {j:Nat} (h:R.then f= .ok y j):∃ x i,R= .ok x i∧f x i= .ok y j:=by
 cases R with
 | ok x i=>exact⟨x,i,rfl,h⟩
 | bad i d=>cases h
def Rz.within {α:Type} (i n:Nat):Rz α→Prop
 | .ok _ j=>i≤j∧j≤n
 | .bad j _=>j≤n
theorem within_then {α β:Type} {i n:Nat} {R:Rz α} {f:α→Nat→Rz β} (h:R.within i n) (hf:∀ x j,R= .ok x j→i≤j→j≤n→(f x j).within j n):(R.then f).within i n:=by
 cases R with
 | ok x j=>
   have:=hf x j rfl h.1 h.2;show (f x j).within i n
   revert this
   cases f x j with
   | ok y m=>exact fun q=>⟨Nat.le_trans h.1 q.1,q.2⟩
   | bad m d=>exact fun q=>q
 | bad j d=>exact h
theorem Rz.within.at_le {α:Type} {i n:Nat} {R:Rz α} (h:R.within i n):R.at≤n:=by
 cases R with
 | ok x j=>exact h.2
 | bad j d=>exact h
def tokZ:Tok:=⟨0,[],0,[],0⟩
def nxz (l:List Tok) (k:Nat):Tok:=l[k]?.getD tokZ
theorem nxz_at {l:List Tok} {k:Nat} {t:Tok} (h:l[k]?=some t):nxz l k=t:=by unfold nxz;rw[h];rfl
theorem nxz_end {l:List Tok} {k:Nat} (h:¬ k<l.length):nxz l k=tokZ:=by unfold nxz;rw[List.getElem?_eq_none (by omega)];rfl
theorem nxz_lt {l:List Tok} {k:Nat} (h:(nxz l k).kind≠0):k<l.length:=by
 by_cases c:k<l.length
 ·exact c
 ·rw[nxz_end c] at h;exact absurd rfl h
def isT (l:List Tok) (kd:Int) (w:Bs) (k:Nat):Bool:=decide ((nxz l k).kind=kd∧(nxz l k).word=w)
theorem isT_lt {l:List Tok} {kd:Int} {w:Bs} {k:Nat} (h:isT l kd w k=true) (hk:kd≠0):k<l.length:=nxz_lt (by have:=of_decide_eq_true h;rw[this.1];exact hk)
def wordsC:List Bs:=[[115,101,116],[108,101,116],[105,110,99,114],[105,102],[119,104,105,108,101],[112,114,111,99],[99,97,108,108],[115,112,97,119,110],[117,115,101],[115,101,110,100],[116,105,109,101,111,117,116],[101,120,112,101,99,116],
 [101,120,112,101,99,116,95,98,101,102,111,114,101],[101,120,112,101,99,116,95,97,102,116,101,114],[101,120,112,95,99,111,110,116,105,110,117,101],[101,120,105,116]]
def kindW (w:Bs):Nat:=if w∈wordsC then wordsC.idxOf w+1 else 0
theorem kindW_le (w:Bs):kindW w≤16:=by
 unfold kindW
 split
 ·rename_i h
  have:=List.idxOf_lt_length_of_mem h;have e:wordsC.length=16:=rfl;omega
 ·omega
variable (l:List Tok)
def needF (kd:Int) (w:Bs) (k:Nat):Rz Unit:=if isT l kd w k then .ok () (k+1) else .bad k false
def kindF (kd:Int) (k:Nat):Rz Tok:=if (nxz l k).kind=kd then .ok (nxz l k) (k+1) else .bad k false
def nameF (k:Nat):Rz Bs:=if (nxz l k).kind=1∧isName (nxz l k).word=true then .ok (nxz l k).word (k+1) else .bad k false
def numF (kind:Int) (k:Nat):Rz Int:=
 if kind=3∧isT l 4 [45] k=true then (kindF l 2 (k+1)).then fun t j=> .ok (-t.n) j
 else if kind=11∧isT l 1 [110,101,118,101,114] k=true then .ok (-1) (k+1)
 else (kindF l 2 k).then fun t j=> .ok t.n j
def textF (k:Nat):Rz (List Pt):=(kindF l 3 k).then fun t j=> .ok t.parts j
open Classical in
noncomputable def exR (k:Nat):Rs:=if h:∃ r,RdE l (.some 1) k 0 r then h.choose else .bad k 1
def exZ:Rs→Rz Ex | .ok x j=> .ok x j | .bad j e=> .bad j (e==8)
noncomputable def condF (k:Nat):Rz Ex:=(needF l 4 [40] k).then fun _ i=>(exZ (exR l i)).then fun x j=>(needF l 4 [41] j).then fun _ m=>if mayX x 0 then .ok x m else .bad k true
def braceF (d k:Nat):Rz Unit:=if d=16∧isT l 4 [123] k=true then .bad k true else needF l 4 [123] k
def blockF (rec:Nat→Nat→Rz (List Cm)) (d k:Nat):Rz (List Cm):=(braceF l d k).then fun _ i=>(rec (d+1) i).then fun x j=>(needF l 4 [125] j).then fun _ m=> .ok x m
def plainP (ps:List Pt):Option Bs:=match ps with
 | []=>some []
 | [p]=>if p.1=[] then some p.2 else none
 | _=>none
def plainF (k:Nat):Rz Bs:=if (nxz l k).kind=3 then (match plainP (nxz l k).parts with | some s=> .ok s (k+1) | none=> .bad k false) else .bad k false
def patF (k:Nat):Rz (Int × Bs):=
 if isT l 5 [101,120] k then (plainF l (k+1)).then fun s j=> .ok (0,s) j
 else if isT l 5 [103,108] k then (plainF l (k+1)).then fun s j=> .ok (1,s) j
 else if isT l 5 [114,101] k then (plainF l (k+1)).then fun s j=> .ok (2,s) j
 else .bad k false
def rwordF (told:Bool) (k:Nat):Rz Int:=
 if told=false∧isT l 1 [116,105,109,101,111,117,116] k=true then .ok 2 (k+1)
 else if isT l 1 [101,111,102] k then .ok 3 (k+1)
 else if told=false∧isT l 1 [100,101,102,97,117,108,116] k=true then .ok 4 (k+1)
 else .bad k false
def peerF (k:Nat):Rz Int:=if isT l 5 [105] k then (kindF l 2 (k+1)).then fun t j=> .ok t.n j else .ok (-1) k
def headF (told:Bool) (k:Nat):Rz (Int × Int × Bs):=if (nxz l k).kind=5 then (patF l k).then fun p j=> .ok (1,p.1,p.2) j else (rwordF l told k).then fun x j=> .ok (x,0,[]) j
def ruleF (blk:Nat→Nat→Rz (List Cm)) (d k:Nat):Rz Ru:=
 (peerF l k).then fun q i=>(headF l (isT l 5 [105] k) i).then fun h j=>(blk d j).then fun b m=> .ok (.mk h.1 q h.2.1 h.2.2 b (nxz l k).pl) m
def rulesL (blk:Nat→Nat→Rz (List Cm)) (d:Nat):Nat→Nat→Rz (List Ru)
 | 0,k=> .bad k false
 | N+1,k=>(ruleF l blk d k).then fun r i=>if isT l 4 [125] i then .ok [r] (i+1) else (rulesL blk d N i).then fun rs m=> .ok (r::rs) m
def rulesF (blk:Nat→Nat→Rz (List Cm)) (d k:Nat):Rz (List Ru):=(braceF l d k).then fun _ i=>rulesL l blk (d+1) (l.length+1) i
noncomputable def cmdF (blk:Nat→Nat→Rz (List Cm)) (d k:Nat):Rz Cm:=
 let p:=(nxz l k).pl
 match kindW (nxz l k).word with
 | 1=>(nameF l (k+1)).then fun s i=>(textF l i).then fun ps j=> .ok (.mk 1 s 0 ps exNone [] [] [] p) j
 | 2=>(nameF l (k+1)).then fun s i=>(condF l i).then fun x j=> .ok (.mk 2 s 0 [] x [] [] [] p) j
 | 3=>(nameF l (k+1)).then fun s i=>(numF l 3 i).then fun z j=> .ok (.mk 3 s z [] exNone [] [] [] p) j
 | 4=>(condF l (k+1)).then fun x i=>(blk d i).then fun b j=>if isT l 1 [101,108,115,101] j then (blk d (j+1)).then fun e m=> .ok (.mk 4 [] 0 [] x b e [] p) m else .ok (.mk 4 [] 0 [] x b [] [] p) j
 | 5=>(condF l (k+1)).then fun x i=>(blk d i).then fun b j=> .ok (.mk 5 [] 0 [] x b [] [] p) j
 | 6=>(nameF l (k+1)).then fun s i=>(blk d i).then fun b j=> .ok (.mk 6 s 0 [] exNone b [] [] p) j
 | 7=>(nameF l (k+1)).then fun s i=> .ok (.mk 7 s 0 [] exNone [] [] [] p) i
 | 8=>(numF l 8 (k+1)).then fun z i=> .ok (.mk 8 [] z [] exNone [] [] [] p) i
 | 9=>(numF l 9 (k+1)).then fun z i=> .ok (.mk 9 [] z [] exNone [] [] [] p) i
 | 10=>(textF l (k+1)).then fun ps i=> .ok (.mk 10 [] 0 ps exNone [] [] [] p) i
 | 11=>(numF l 11 (k+1)).then fun z i=> .ok (.mk 11 [] z [] exNone [] [] [] p) i
 | 12=>(rulesF l blk d (k+1)).then fun u i=> .ok (.mk 12 [] 0 [] exNone [] [] u p) i
 | 13=>(rulesF l blk d (k+1)).then fun u i=> .ok (.mk 13 [] 0 [] exNone [] [] u p) i
 | 14=>(rulesF l blk d (k+1)).then fun u i=> .ok (.mk 14 [] 0 [] exNone [] [] u p) i
 | 15=> .ok (.mk 15 [] 0 [] exNone [] [] [] p) (k+1)
 | 16=> .ok (.mk 16 [] 0 [] exNone [] [] [] p) (k+1)
 | _=> .bad k false
noncomputable def cmdsF:Nat→Nat→Nat→Rz (List Cm)
 | 0,_,k=> .ok [] k
 | N+1,d,k=>if (nxz l k).kind=1 then (cmdF l (blockF l (cmdsF N)) d k).then fun c i=>(cmdsF N d i).then fun cs m=> .ok (c::cs) m else .ok [] k
noncomputable def allF:Rz (List Cm):=(cmdsF l (l.length+1) 0 0).then fun x j=>if j<l.length then .bad j false else .ok x j
end
section
theorem Rz.within.from {α:Type} {i i' n:Nat} {R:Rz α} (h:R.within i n) (hi:i'≤i):R.within i' n:=by
 cases R with
 | ok x j=>exact⟨Nat.le_trans hi h.1,h.2⟩
 | bad j d=>exact h
theorem within_map {α β:Type} {i n:Nat} {R:Rz α} {g:α→β} (h:R.within i n):(R.then fun x j=> .ok (g x) j).within i n:=within_then h fun _ _ _ _ h2=>⟨Nat.le_refl _,h2⟩
variable {l:List Tok}
theorem needF_in {kd:Int} {w:Bs} {k:Nat} (hk:kd≠0) (h:k≤l.length):(needF l kd w k).within k l.length:=by
 unfold needF
 split
 ·rename_i c;exact⟨Nat.le_succ _,isT_lt c hk⟩
 ·exact h
theorem kindF_in {kd:Int} {k:Nat} (hk:kd≠0) (h:k≤l.length):(kindF l kd k).within k l.length:=by
 unfold kindF
 split
 ·rename_i c;exact⟨Nat.le_succ _,nxz_lt (by rw[c];exact hk)⟩
 ·exact h
theorem nameF_in {k:Nat} (h:k≤l.length):(nameF l k).within k l.length:=by
 unfold nameF
 split
 ·rename_i c;exact⟨Nat.le_succ _,nxz_lt (by rw[c.1];decide)⟩
 ·exact h
theorem textF_in {k:Nat} (h:k≤l.length):(textF l k).within k l.length:=within_map (kindF_in (by decide) h)
theorem numF_in {kind:Int} {k:Nat} (h:k≤l.length):(numF l kind k).within k l.length:=by
 unfold numF
 split
 ·rename_i c;exact(within_map (kindF_in (by decide) (isT_lt c.2 (by decide)))).from (Nat.le_succ _)
 ·split
  ·rename_i c;exact⟨Nat.le_succ _,isT_lt c.2 (by decide)⟩
  ·exact within_map (kindF_in (by decide) h)
theorem exR_in {k:Nat} (h:k≤l.length):(exR l k).within l k:=by
 unfold exR
 split
 ·rename_i c;exact c.choose_spec.within (Nat.le_refl 1) h
 ·exact⟨Nat.le_refl _,h,.inl rfl⟩
theorem exZ_in {k:Nat} {r:Rs} (h:r.within l k):(exZ r).within k l.length:=by
 cases r with
 | ok x j=>exact h
 | bad j e=>exact h.2.1
theorem condF_in {k:Nat} (h:k≤l.length):(condF l k).within k l.length:=by
 have h1:=needF_in (l:=l) (kd:=4) (w:=[40]) (by decide) h;unfold condF
 cases hq:needF l 4 [40] k with
 | bad j d=>rw[hq] at h1;exact h1
 | ok u i=>
   rw[hq] at h1;have h2:=exZ_in (exR_in h1.2);show ((exZ (exR l i)).then _).within k l.length
   cases hx:exZ (exR l i) with
   | bad j d=>rw[hx] at h2;exact h2
   | ok x j=>
     rw[hx] at h2;have h3:=needF_in (l:=l) (kd:=4) (w:=[41]) (by decide) h2.2;show ((needF l 4 [41] j).then _).within k l.length
     cases hn:needF l 4 [41] j with
     | bad m d=>rw[hn] at h3;exact h3
     | ok u m=>
       rw[hn] at h3;show (if mayX x 0=true then Rz.ok x m else .bad k true).within k l.length
       split
       ·exact⟨by have:=h1.1;have:=h2.1;have:=h3.1;omega,h3.2⟩
       ·exact h
theorem braceF_in {d k:Nat} (h:k≤l.length):(braceF l d k).within k l.length:=by
 unfold braceF
 split
 ·exact h
 ·exact needF_in (by decide) h
def BlkIn (l:List Tok) (blk:Nat→Nat→Rz (List Cm)):Prop:=∀ d k,k≤l.length→(blk d k).within k l.length
theorem blockF_in {rec:Nat→Nat→Rz (List Cm)} (hr:BlkIn l rec):BlkIn l (blockF l rec):=fun _ _ h=>
 within_then (braceF_in h) fun _ _ _ _ h1=>within_then (hr _ _ h1) fun _ _ _ _ h2=>within_map (g:=fun _=>_) (needF_in (by decide) h2)
theorem plainF_in {k:Nat} (h:k≤l.length):(plainF l k).within k l.length:=by
 unfold plainF
 split
 ·rename_i c
  split
  ·exact⟨Nat.le_succ _,nxz_lt (by rw[c];decide)⟩
  ·exact h
 ·exact h
theorem patF_in {k:Nat} (h:k≤l.length):(patF l k).within k l.length:=by
 unfold patF
 split
 ·rename_i c;exact(within_map (plainF_in (isT_lt c (by decide)))).from (Nat.le_succ _)
 ·split
  ·rename_i c;exact(within_map (plainF_in (isT_lt c (by decide)))).from (Nat.le_succ _)
  ·split
   ·rename_i c;exact(within_map (plainF_in (isT_lt c (by decide)))).from (Nat.le_succ _)
   ·exact h
theorem rwordF_in {told:Bool} {k:Nat} (h:k≤l.length):(rwordF l told k).within k l.length:=by
 unfold rwordF
 split
 ·rename_i c;exact⟨Nat.le_succ _,isT_lt c.2 (by decide)⟩
 ·split
  ·rename_i c;exact⟨Nat.le_succ _,isT_lt c (by decide)⟩
  ·split
   ·rename_i c;exact⟨Nat.le_succ _,isT_lt c.2 (by decide)⟩
   ·exact h
theorem peerF_in {k:Nat} (h:k≤l.length):(peerF l k).within k l.length:=by
 unfold peerF
 split
 ·rename_i c;exact(within_map (kindF_in (by decide) (isT_lt c (by decide)))).from (Nat.le_succ _)
 ·exact⟨Nat.le_refl _,h⟩
theorem headF_in {told:Bool} {k:Nat} (h:k≤l.length):(headF l told k).within k l.length:=by
 unfold headF
 split
 ·exact within_map (patF_in h)
 ·exact within_map (rwordF_in h)
theorem headF_more {told:Bool} {k:Nat} {p:Int × Int × Bs} {j:Nat} (h:headF l told k= .ok p j):k<j:=by
 have e:∀ {α:Type} {f:Bs→α} {x:α},((plainF l (k+1)).then fun s j=> .ok (f s) j)= .ok x j→k<j:=fun {α f x} h=>by
  obtain⟨s,i,h1,h2⟩:=Rz.then_ok h;injection h2 with _ h2
  subst h2;unfold plainF at h1
  split at h1
  ·split at h1
   ·injection h1 with _ h1;omega
   ·cases h1
  ·cases h1
 unfold headF at h
 split at h
 ·obtain⟨s,i,h1,h2⟩:=Rz.then_ok h
  injection h2 with _ h2
  subst h2;unfold patF at h1
  split at h1
  ·exact e h1
  ·split at h1
   ·exact e h1
   ·split at h1
    ·exact e h1
    ·cases h1
 ·obtain⟨s,i,h1,h2⟩:=Rz.then_ok h
  injection h2 with _ h2
  subst h2;unfold rwordF at h1
  split at h1
  ·injection h1 with _ h1;omega
  ·split at h1
   ·injection h1 with _ h1;omega
   ·split at h1
    ·injection h1 with _ h1;omega
    ·cases h1
theorem ruleF_in {blk:Nat→Nat→Rz (List Cm)} (hb:BlkIn l blk) {d k:Nat} (h:k≤l.length):(ruleF l blk d k).within k l.length:=
 within_then (peerF_in h) fun _ _ _ _ h1=>within_then (headF_in h1) fun _ _ _ _ h2=>within_map (g:=fun _=>_) (hb _ _ h2)
theorem within_eq {α:Type} {i n:Nat} {R:Rz α} {x:α} {j:Nat} (h:R.within i n) (e:R= .ok x j):i≤j∧j≤n:=by subst e;exact h
theorem ruleF_more {blk:Nat→Nat→Rz (List Cm)} (hb:BlkIn l blk) {d k:Nat} (h:k≤l.length) {r:Ru} {j:Nat} (e:ruleF l blk d k= .ok r j):k<j:=by
 obtain⟨q,i,h1,e⟩:=Rz.then_ok e;have a1:=within_eq (peerF_in h) h1;obtain⟨p,m,h2,e⟩:=Rz.then_ok e;have a2:=within_eq (headF_in a1.2) h2;have a3:=headF_more h2;obtain⟨b,m2,h3,e⟩:=Rz.then_ok e;have a4:=within_eq (hb _ _ a2.2) h3;injection e with _ e
 omega
theorem rulesL_in {blk:Nat→Nat→Rz (List Cm)} (hb:BlkIn l blk) {d:Nat}:∀ {N k:Nat},k≤l.length→(rulesL l blk d N k).within k l.length
 | 0,k,h=>h
 | N+1,k,h=>within_then (ruleF_in hb h) fun r i hi _ h1=>by
   split
   ·rename_i c;exact⟨Nat.le_succ _,isT_lt c (by decide)⟩
   ·exact within_map (g:=fun _=>_) (rulesL_in hb h1)
theorem rulesF_in {blk:Nat→Nat→Rz (List Cm)} (hb:BlkIn l blk) {d k:Nat} (h:k≤l.length):(rulesF l blk d k).within k l.length:=within_then (braceF_in h) fun _ _ _ _ h1=>rulesL_in hb h1
theorem cmdF_in {blk:Nat→Nat→Rz (List Cm)} (hb:BlkIn l blk) {d k:Nat} (h:k<l.length):(cmdF l blk d k).within (k+1) l.length:=by
 have h1:k+1≤l.length:=h;unfold cmdF;dsimp only
 split
 ·exact within_then (nameF_in h1) fun _ _ _ _ h2=>within_map (g:=fun _=>_) (textF_in h2)
 ·exact within_then (nameF_in h1) fun _ _ _ _ h2=>within_map (g:=fun _=>_) (condF_in h2)
 ·exact within_then (nameF_in h1) fun _ _ _ _ h2=>within_map (g:=fun _=>_) (numF_in h2)
 ·refine within_then (condF_in h1) fun _ _ _ _ h2=>within_then (hb _ _ h2) fun _ _ _ _ h3=>?_
  split
  ·rename_i c;exact(within_map (g:=fun _=>_) (hb _ _ (isT_lt c (by decide)))).from (Nat.le_succ _)
  ·exact⟨Nat.le_refl _,h3⟩
 ·exact within_then (condF_in h1) fun _ _ _ _ h2=>within_map (g:=fun _=>_) (hb _ _ h2)
 ·exact within_then (nameF_in h1) fun _ _ _ _ h2=>within_map (g:=fun _=>_) (hb _ _ h2)
 ·exact within_map (g:=fun _=>_) (nameF_in h1)
 ·exact within_map (g:=fun _=>_) (numF_in h1)
 ·exact within_map (g:=fun _=>_) (numF_in h1)
 ·exact within_map (g:=fun _=>_) (textF_in h1)
 ·exact within_map (g:=fun _=>_) (numF_in h1)
 ·exact within_map (g:=fun _=>_) (rulesF_in hb h1)
 ·exact within_map (g:=fun _=>_) (rulesF_in hb h1)
 ·exact within_map (g:=fun _=>_) (rulesF_in hb h1)
 ·exact⟨Nat.le_refl _,h1⟩
 ·exact⟨Nat.le_refl _,h1⟩
 ·exact Nat.le_of_lt h
theorem cmdsF_in:∀ N,BlkIn l (cmdsF l N)
 | 0,_,_,h=>⟨Nat.le_refl _,h⟩
 | N+1,d,k,h=>by
   rw[cmdsF]
   split
   ·rename_i c
    exact(within_then (cmdF_in (blockF_in (cmdsF_in N)) (nxz_lt (by rw[c];decide))) fun _ _ _ _ h2=>within_map (g:=fun _=>_) (cmdsF_in N d _ h2)).from (Nat.le_succ _)
   ·exact⟨Nat.le_refl _,h⟩
end
def LieL (w:World) (a:Addr) (vs:List Value):Prop:=∀ j u,vs[j]?=some u→w.cell? (a.add j)=some u
theorem LieL.keep {w w':World} {a:Addr} {vs:List Value} (h:LieL w a vs) (hb:∀ p:Addr,p.block=a.block→w'.cell? p=w.cell? p):LieL w' a vs:=fun j u hu=>(hb _ (blockX_add a j)).trans (h j u hu)
def RdP (P:Nat→Prop) (w:World) (A:Option Addr) (ps:List Pt):Prop:=ps=[]∨∃ ad,A=some ad∧P ad.block∧LieL w ad (cellsP ps)
structure Lk where
 p:Option Addr
 cp:Nat
 x:Option Addr
 cx:Nat
 b:Option Addr
 cb:Nat
 e:Option Addr
 ce:Nat
 u:Option Addr
 cu:Nat
def cellsC (c:Cm) (k:Lk):List Value:=[.int .i64 c.kind,.string ⟨c.name.toArray⟩,.int .i64 c.n,.slice k.p c.parts.length k.cp,.int .i64 c.cond.kind,.int .i64 c.cond.n,.string ⟨c.cond.name.toArray⟩,.string ⟨c.cond.op.toArray⟩,.slice k.x c.cond.kids.length k.cx,
 .slice k.b c.body.length k.cb,.slice k.e c.els.length k.ce,.slice k.u c.rules.length k.cu,.int .i64 c.pl]
def valC (c:Cm) (k:Lk):Value:= .agg (cellsC c k).toArray
def cellsR (r:Ru) (A:Option Addr) (c:Nat):List Value:=[.int .i64 r.kind,.int .i64 r.peer,.int .i64 r.pk,.string ⟨r.pt.toArray⟩,.slice A r.body.length c,.int .i64 r.pl]
def valR (r:Ru) (A:Option Addr) (c:Nat):Value:= .agg (cellsR r A c).toArray
mutual
def KidC (P:Nat→Prop) (w:World) (k:Lk):Cm→Prop
 | .mk _ _ _ ps x b e u _=>RdP P w k.p ps∧KidsX P w k.x x∧(b=[]∨∃ ad,k.b=some ad∧P ad.block∧KidCL P w ad 0 b)∧(e=[]∨∃ ad,k.e=some ad∧P ad.block∧KidCL P w ad 0 e)∧(u=[]∨∃ ad,k.u=some ad∧P ad.block∧KidRL P w ad 0 u)
def KidR (P:Nat→Prop) (w:World) (A:Option Addr):Ru→Prop
 | .mk _ _ _ _ b _=>b=[]∨∃ ad,A=some ad∧P ad.block∧KidCL P w ad 0 b
def KidCL (P:Nat→Prop) (w:World) (ad:Addr) (i:Nat):List Cm→Prop
 | []=>True
 | c::cs=>(∃ k,LieL w (ad.add (i * 13)) (cellsC c k)∧KidC P w k c)∧KidCL P w ad (i+1) cs
def KidRL (P:Nat→Prop) (w:World) (ad:Addr) (i:Nat):List Ru→Prop
 | []=>True
 | r::rs=>(∃ A c,LieL w (ad.add (i * 6)) (cellsR r A c)∧KidR P w A r)∧KidRL P w ad (i+1) rs
end
def RowC (P:Nat→Prop) (w:World) (A:Option Addr) (b:List Cm):Prop:=b=[]∨∃ ad,A=some ad∧P ad.block∧KidCL P w ad 0 b
def RowU (P:Nat→Prop) (w:World) (A:Option Addr) (u:List Ru):Prop:=u=[]∨∃ ad,A=some ad∧P ad.block∧KidRL P w ad 0 u
theorem kidC_eq {P:Nat→Prop} {w:World} {k:Lk} {c:Cm}:KidC P w k c ↔ RdP P w k.p c.parts∧KidsX P w k.x c.cond∧RowC P w k.b c.body∧RowC P w k.e c.els∧RowU P w k.u c.rules:=by cases c;rw[KidC];exact Iff.rfl
theorem kidR_eq {P:Nat→Prop} {w:World} {A:Option Addr} {r:Ru}:KidR P w A r ↔ RowC P w A r.body:=by cases r;rw[KidR];exact Iff.rfl
theorem kidCL_iff {P:Nat→Prop} {w:World} {ad:Addr}:∀ {l:List Cm} {i:Nat},KidCL P w ad i l ↔ ∀ j c,l[j]?=some c→∃ k,LieL w (ad.add ((i+j) * 13)) (cellsC c k)∧KidC P w k c
 | [],i=>by rw[KidCL];simp
 | x::l,i=>by
   rw[KidCL,kidCL_iff (l:=l)]
   constructor
   ·rintro⟨h0,h⟩ j c hj
    cases j with
    | zero=>injection hj with hj;subst hj;exact h0
    | succ j=>have:=h j c (by simpa using hj);rwa [show i+1+j=i+(j+1) by omega] at this
   ·intro h
    refine⟨h 0 x rfl,fun j c hj=>?_⟩;have:=h (j+1) c (by simpa using hj);rwa [show i+(j+1)=i+1+j by omega] at this
theorem kidRL_iff {P:Nat→Prop} {w:World} {ad:Addr}:∀ {l:List Ru} {i:Nat},KidRL P w ad i l ↔ ∀ j r,l[j]?=some r→∃ A c,LieL w (ad.add ((i+j) * 6)) (cellsR r A c)∧KidR P w A r
 | [],i=>by rw[KidRL];simp
 | x::l,i=>by
   rw[KidRL,kidRL_iff (l:=l)]
   constructor
   ·rintro⟨h0,h⟩ j c hj
    cases j with
    | zero=>injection hj with hj;subst hj;exact h0
    | succ j=>have:=h j c (by simpa using hj);rwa [show i+1+j=i+(j+1) by omega] at this
   ·intro h
    refine⟨h 0 x rfl,fun j c hj=>?_⟩;have:=h (j+1) c (by simpa using hj);rwa [show i+(j+1)=i+1+j by omega] at this
theorem RdP.of {P Q:Nat→Prop} {w w':World} {A:Option Addr} {ps:List Pt} (hs:∀ p:Addr,P p.block→w'.cell? p=w.cell? p) (hPQ:∀ k,P k→Q k) (h:RdP P w A ps):RdP Q w' A ps:=by
 rcases h with h | ⟨ad,e,hp,hl⟩
 ·exact .inl h
 ·exact .inr ⟨ad,e,hPQ _ hp,hl.keep fun p hpb=>hs p (by rw[hpb];exact hp)⟩
theorem rowC_up {P Q:Nat→Prop} {w w':World} {A:Option Addr} {b:List Cm} (hs:∀ p:Addr,P p.block→w'.cell? p=w.cell? p) (hPQ:∀ k,P k→Q k) (hb:∀ c∈b,∀ k,KidC P w k c→KidC Q w' k c) (h:RowC P w A b):RowC Q w' A b:=by
 rcases h with h | ⟨ad,e,hp,hl⟩
 ·exact .inl h
 ·refine .inr ⟨ad,e,hPQ _ hp,kidCL_iff.2 fun j c hj=>?_⟩
  obtain⟨k,h1,h2⟩:=kidCL_iff.1 hl j c hj;exact⟨k,h1.keep fun p hpb=>hs p (by rw[hpb,blockX_add];exact hp),hb c (List.mem_of_getElem? hj) k h2⟩
theorem rowU_up {P Q:Nat→Prop} {w w':World} {A:Option Addr} {b:List Ru} (hs:∀ p:Addr,P p.block→w'.cell? p=w.cell? p) (hPQ:∀ k,P k→Q k) (hb:∀ c∈b,∀ A,KidR P w A c→KidR Q w' A c) (h:RowU P w A b):RowU Q w' A b:=by
 rcases h with h | ⟨ad,e,hp,hl⟩
 ·exact .inl h
 ·refine .inr ⟨ad,e,hPQ _ hp,kidRL_iff.2 fun j c hj=>?_⟩
  obtain⟨A',c',h1,h2⟩:=kidRL_iff.1 hl j c hj;exact⟨A',c',h1.keep fun p hpb=>hs p (by rw[hpb,blockX_add];exact hp),hb c (List.mem_of_getElem? hj) A' h2⟩
theorem kids_of {P Q:Nat→Prop} {w w':World} (hs:∀ p:Addr,P p.block→w'.cell? p=w.cell? p) (hPQ:∀ k,P k→Q k):(∀ (c:Cm) (k:Lk),KidC P w k c→KidC Q w' k c)∧∀ (r:Ru) (A:Option Addr),KidR P w A r→KidR Q w' A r:=by
 refine Cm.ind2 (P:=fun c=>∀ k:Lk,KidC P w k c→KidC Q w' k c) (Q:=fun r=>∀ A:Option Addr,KidR P w A r→KidR Q w' A r) ?_ ?_
 ·intro k nm n ps x b e u p hb he hu lk h
  rw[kidC_eq] at h ⊢;obtain⟨h1,h2,h3,h4,h5⟩:=h;exact⟨h1.of hs hPQ,kidsX_of hs hPQ _ _ h2,rowC_up hs hPQ hb h3,rowC_up hs hPQ he h4,rowU_up hs hPQ hu h5⟩
 ·intro k q pk pt b p hb A h
  rw[kidR_eq] at h ⊢;exact rowC_up hs hPQ hb h
theorem KidC.of {P Q:Nat→Prop} {w w':World} {k:Lk} {c:Cm} (h:KidC P w k c) (hs:∀ p:Addr,P p.block→w'.cell? p=w.cell? p) (hPQ:∀ k,P k→Q k):KidC Q w' k c:=(kids_of hs hPQ).1 c k h
theorem KidR.of {P Q:Nat→Prop} {w w':World} {A:Option Addr} {r:Ru} (h:KidR P w A r) (hs:∀ p:Addr,P p.block→w'.cell? p=w.cell? p) (hPQ:∀ k,P k→Q k):KidR Q w' A r:=(kids_of hs hPQ).2 r A h
theorem RowC.of {P Q:Nat→Prop} {w w':World} {A:Option Addr} {b:List Cm} (h:RowC P w A b) (hs:∀ p:Addr,P p.block→w'.cell? p=w.cell? p) (hPQ:∀ k,P k→Q k):RowC Q w' A b:=rowC_up hs hPQ (fun _ _ _ h=>h.of hs hPQ) h
theorem RowU.of {P Q:Nat→Prop} {w w':World} {A:Option Addr} {b:List Ru} (h:RowU P w A b) (hs:∀ p:Addr,P p.block→w'.cell? p=w.cell? p) (hPQ:∀ k,P k→Q k):RowU Q w' A b:=rowU_up hs hPQ (fun _ _ _ h=>h.of hs hPQ) h
theorem RdP.next {w w':World} {A:Option Addr} {b:List Pt} (h:RdP (LtX w.heap.size) w A b) (hb:Below w.heap.size w w'):RdP (LtX w'.heap.size) w' A b:=h.of (fun _ h=>hb.cell h) (fun _ h=>Nat.lt_of_lt_of_le h hb.size)
theorem KidC.next {w w':World} {k:Lk} {c:Cm} (h:KidC (LtX w.heap.size) w k c) (hb:Below w.heap.size w w'):KidC (LtX w'.heap.size) w' k c:=h.of (fun _ h=>hb.cell h) (fun _ h=>Nat.lt_of_lt_of_le h hb.size)
theorem RowC.next {w w':World} {A:Option Addr} {b:List Cm} (h:RowC (LtX w.heap.size) w A b) (hb:Below w.heap.size w w'):RowC (LtX w'.heap.size) w' A b:=h.of (fun _ h=>hb.cell h) (fun _ h=>Nat.lt_of_lt_of_le h hb.size)
theorem RowU.next {w w':World} {A:Option Addr} {b:List Ru} (h:RowU (LtX w.heap.size) w A b) (hb:Below w.heap.size w w'):RowU (LtX w'.heap.size) w' A b:=h.of (fun _ h=>hb.cell h) (fun _ h=>Nat.lt_of_lt_of_le h hb.size)
theorem rdP_rd {B:Nat} {w:World} {A:Option Addr} {ps:List Pt}:RdP (LtX B) w A ps ↔ Rd B w A ps.length ps:=by
 constructor
 ·rintro(rfl | ⟨ad,e,hp,hl⟩)
  ·exact⟨rfl,fun h=>absurd h (by simp)⟩
  ·exact⟨rfl,fun _=>⟨ad,e,hp,hl⟩⟩
 ·rintro⟨_,h⟩
  by_cases c:ps=[]
  ·exact .inl c
  ·obtain⟨ad,e,h1,h2⟩:=h (List.length_pos_iff.2 c)
   exact .inr ⟨ad,e,h1,h2⟩
structure BoxL (w:World) (c:Nat) (vs:List Value):Prop where
 at_:∀ j u,vs[j]?=some u→w.cell? ⟨c,j,none⟩=some u
 fr:∀ j,j<vs.length→w.frozen? ⟨c,j,none⟩=false
theorem BoxL.new (w:World) (T:TypeId) (vs:List Value):BoxL (w.alloc (.cells vs.toArray T)) w.heap.size vs:=
 ⟨fun j u h=>new_at w T vs.toArray j u (by simpa using h),fun j hj=>by simp[go_sem]⟩
theorem BoxL.lt {w:World} {c:Nat} {vs:List Value} (h:BoxL w c vs) (hv:0<vs.length):c<w.heap.size:=World.block_lt_of_cell? w _ (h.at_ 0 vs[0] (List.getElem?_eq_getElem hv))
theorem BoxL.grown {b c:Nat} {w w':World} {vs:List Value} (h:BoxL w c vs) (hv:0<vs.length) (hg:w.grownBy w' (some b)) (hn:c≠b):BoxL w' c vs:=by
 have e:w'.heap[c]?=w.heap[c]?:=hg.block c (h.lt hv) (fun e=>hn (by injection e));exact⟨fun j u hu=>(World.cell?_of_block (a:=⟨c,j,none⟩) e).trans (h.at_ j u hu),fun j hj=>(World.frozen?_of_block (a:=⟨c,j,none⟩) e).trans (h.fr j hj)⟩
theorem BoxL.low {c:Nat} {w w':World} {vs:List Value} (h:BoxL w c vs) (hv:0<vs.length) (hb:Below w.heap.size w w'):BoxL w' c vs:=h.grown hv (b:=c+1) (grown_below hb) (by omega)
theorem BoxL.other {w:World} {c:Nat} {vs:List Value} (h:BoxL w c vs) {a:Addr} (ha:a.block≠c) (u:Value):BoxL (w.setCell a u) c vs:=
 ⟨fun j v hv=>(World.cell?_setCell_other _ _ _ _ (fun e=>ha (by rw[e]))).trans (h.at_ j v hv),fun j hj=>(World.frozen?_setCell ..).trans (h.fr j hj)⟩
theorem BoxL.set {w:World} {c:Nat} {vs:List Value} (h:BoxL w c vs) (j:Nat) (hj:j<vs.length) (u:Value):BoxL (w.setCell ⟨c,j,none⟩ u) c (vs.set j u):=by
 refine⟨fun i v hv=>?_,fun i hi=>(World.frozen?_setCell ..).trans (h.fr i (by simpa using hi))⟩;by_cases e:j=i
 ·subst e
  rw[List.getElem?_set_self hj] at hv;injection hv with hv
  subst hv;exact set_same _ _ _ _ _ (h.at_ j _ (List.getElem?_eq_getElem hj))
 ·rw[List.getElem?_set_ne e] at hv
  rw[set_ne _ _ _ _ _ e];exact h.at_ i v hv
section
structure RdS (b:Nat) (w:World) (A:Option Addr) (n c:Nat) (l:List Tok) (k o:Nat):Prop where
 c0:w.cell? ⟨b,0,none⟩=some (.slice A n c)
 c1:w.cell? ⟨b,1,none⟩=some (.int .i64 k)
 c2:w.cell? ⟨b,2,none⟩=some (.int .i64 o)
 f1:w.frozen? ⟨b,1,none⟩=false
 f2:w.frozen? ⟨b,2,none⟩=false
 row:RdT b w A n l
 giv:∀ w',Below b w w'→Given w'
 fit:FitL l
 le:k≤n
 oks:o=0∨o=1∨o=8
 few:n≤4000
section
variable {b:Nat} {w w':World} {A:Option Addr} {n c:Nat} {l:List Tok} {k o:Nat}
theorem RdS.lt (h:RdS b w A n c l k o):b<w.heap.size:=World.block_lt_of_cell? w _ h.c0
theorem RdS.low (h:RdS b w A n c l k o) (hB:Below w.heap.size w w'):RdS b w' A n c l k o:=
 ⟨(hB.cell (p:=⟨b,0,none⟩) h.lt).trans h.c0,(hB.cell (p:=⟨b,1,none⟩) h.lt).trans h.c1,(hB.cell (p:=⟨b,2,none⟩) h.lt).trans h.c2,(hB.frozen (p:=⟨b,1,none⟩) h.lt).trans h.f1,(hB.frozen (p:=⟨b,2,none⟩) h.lt).trans h.f2,
   h.row.keep (hB.mono (Nat.le_of_lt h.lt)),fun w2 h2=>h.giv w2 ((hB.mono (Nat.le_of_lt h.lt)).trans h2),h.fit,h.le,h.oks,h.few⟩
theorem RdS.other (h:RdS b w A n c l k o) {a:Addr} (ha:b<a.block) (u:Value):RdS b (w.setCell a u) A n c l k o:=by
 have hB:Below b w (w.setCell a u):=(Below.refl _ _).setCell (by omega) _;have ne:∀ j,(w.setCell a u).cell? ⟨b,j,none⟩=w.cell? ⟨b,j,none⟩:=fun j=>World.cell?_setCell_other _ _ _ _ (fun e=>by rw[e] at ha;exact absurd ha (Nat.lt_irrefl _))
 exact⟨(ne 0).trans h.c0,(ne 1).trans h.c1,(ne 2).trans h.c2,(World.frozen?_setCell ..).trans h.f1,(World.frozen?_setCell ..).trans h.f2,h.row.keep hB,fun w2 h2=>h.giv w2 (hB.trans h2),h.fit,h.le,h.oks,h.few⟩
theorem RdS.place (h:RdS b w A n c l k o) (j:Nat) (z:Int) (hz:z=j) (hj:j≤n):RdS b (w.setCell ⟨b,1,none⟩ (.int .i64 z)) A n c l j o:=by
 subst hz;have hB:Below b w (w.setCell ⟨b,1,none⟩ (.int .i64 j)):=(Below.refl b w).setCell (Nat.le_refl b) _;exact⟨(set_ne _ _ _ _ _ (by omega)).trans h.c0,set_same _ _ _ _ _ h.c1,(set_ne _ _ _ _ _ (by omega)).trans h.c2,(World.frozen?_setCell ..).trans h.f1,(World.frozen?_setCell ..).trans h.f2,h.row.keep hB,fun w2 h2=>h.giv w2 (hB.trans h2),h.fit,hj,h.oks,h.few⟩
theorem RdS.fault (h:RdS b w A n c l k o) (e:Nat) (he:e=0∨e=1∨e=8):RdS b (w.setCell ⟨b,2,none⟩ (.int .i64 e)) A n c l k e:=by
 have hB:Below b w (w.setCell ⟨b,2,none⟩ (.int .i64 e)):=(Below.refl b w).setCell (Nat.le_refl b) _;exact⟨(set_ne _ _ _ _ _ (by omega)).trans h.c0,(set_ne _ _ _ _ _ (by omega)).trans h.c1,set_same _ _ _ _ _ h.c2,(World.frozen?_setCell ..).trans h.f1,(World.frozen?_setCell ..).trans h.f2,h.row.keep hB,fun w2 h2=>h.giv w2 (hB.trans h2),h.fit,h.le,he,h.few⟩
theorem RdS.box (h:RdS b w A n c l k o) (x:Obj):RdS b (w.alloc x) A n c l k o:=h.low ((Below.refl _ _).alloc (Nat.le_refl _) _)
theorem RdS.five (h:RdS b w A n c l k o):w.cell? ⟨b,0,none⟩=some (.slice A n c)∧w.cell? ⟨b,1,none⟩=some (.int .i64 k)∧w.cell? ⟨b,2,none⟩=some (.int .i64 o)∧w.frozen? ⟨b,1,none⟩=false∧w.frozen? ⟨b,2,none⟩=false:=⟨h.c0,h.c1,h.c2,h.f1,h.f2⟩
theorem RdS.len (h:RdS b w A n c l k o):n=l.length∧n≤1000000:=⟨h.row.1,by rw[h.row.1];exact h.fit.len⟩
end
def nxo (l:List Tok) (k o:Nat):Tok:=if o=0 then nxz l k else tokZ
def NextS (b:Nat) (w:World) (t:Tok) (e:Ending) (w':World):Prop:=∃ A c,e= .returned (.agg #[.int .i64 t.kind,.string ⟨t.word.toArray⟩,.int .i64 t.n,.slice A t.parts.length c,.int .i64 t.pl])∧Below w.heap.size w w'∧Rd b w A t.parts.length t.parts
theorem eqI_f {a b:Nat} (h:¬ a=b):((a:Int)==(b:Int))=false∧(a==b)=false∧((a:Int) != (b:Int))=true∧(a != b)=true:=by
 refine⟨?_,?_,?_,?_⟩ <;> simp <;> omega
theorem eqI_t {a b:Nat} (h:a=b):((a:Int)==(b:Int))=true∧(a==b)=true∧((a:Int) != (b:Int))=false∧(a != b)=false:=by subst h;simp
theorem neq0_f {a:Nat} (h:¬ a=0):((a:Int)==0)=false∧(a==0)=false∧((a:Int) != 0)=true∧(a != 0)=true:=by
 refine⟨?_,?_,?_,?_⟩ <;> simp <;> omega
theorem snext_any (b:Nat) (w:World) (A:Option Addr) (n c:Nat) (l:List Tok) (k o:Nat) (h:RdS b w A n c l k o):
  Calls Tryz.prog 31 #[.pointer (some ⟨b,0,none⟩)] w (NextS b w (nxo l k o)):=by
 have hbl:=h.lt;have hlen:=h.len;obtain⟨c0,c1,c2,f1,f2,row,giv,fit,le,oks⟩:=h;by_cases o0:o=0
 ·subst o0
  unfold nxo;rw[if_pos rfl];by_cases a:k<n
  ·obtain⟨t,ht⟩:∃ t,l[k]?=some t:=⟨_,List.getElem?_eq_getElem (by omega)⟩
   rw[nxz_at ht];obtain⟨ad,A',c',rfl,h5,hrd⟩:=row.at_ ht
   obtain⟨x0,x1,x2,x3,x4⟩:=h5;have hbt:(ad.add (k * 5)).block<w.heap.size:=World.block_lt_of_cell? w _ x0;obtain⟨W,hW⟩:∃ W:ByteArray,W=⟨t.word.toArray⟩:=⟨_,rfl⟩;have HRD:=Lib.hid hrd;unfold NextS;rw[←hW] at x1 ⊢;generalize t.parts.length=m at x3 HRD ⊢;obtain⟨b1,b2,b3,b4⟩:=eqI_f (show ¬ k=n by omega);have hk1:(k:Int)<n:=by omega
   clear hrd ht hW row giv fit hlen f1 f2;go_enter Tryz.func31,Tryz.ntmps31;go_wp2;go_quiet (fail);go_wp2
   go_region
   go_wp2;refine bodyPost_ret (v:= .agg #[.int .i64 t.kind,.string W,.int .i64 t.n,.slice A' m c',.int .i64 t.pl]) (by simp[results,Tryz.results31,go_sem]) rfl ⟨A',c',rfl,?_,?_⟩
   ·exact box5_below (below_drewN (Below.refl _ _) _) _ _ _ _ _
   ·exact HRD.out
  ·have hkn:k=n:=by omega
   rw[nxz_end (by omega)];unfold NextS tokZ;obtain⟨b1,b2,b3,b4⟩:=eqI_t hkn;clear row giv fit hlen hkn f1 f2;go_enter Tryz.func31,Tryz.ntmps31;go_wp2;go_quiet (fail);go_wp2;refine bodyPost_ret (v:= .agg #[.int .i64 0,.string ⟨#[]⟩,.int .i64 0,.slice none 0 0,.int .i64 0]) (by simp[results,Tryz.results31,go_sem]) rfl ⟨none,0,rfl,?_,rfl,fun h=>absurd h (by simp)⟩;exact box5_below (below_drewN (Below.refl _ _) _) _ _ _ _ _
 ·unfold nxo
  rw[if_neg o0];unfold NextS tokZ;obtain⟨b1,b2,b3,b4⟩:=neq0_f o0;clear row giv fit hlen f1 f2 o0 oks;go_enter Tryz.func31,Tryz.ntmps31;go_wp2;go_quiet (fail);go_wp2;refine bodyPost_ret (v:= .agg #[.int .i64 0,.string ⟨#[]⟩,.int .i64 0,.slice none 0 0,.int .i64 0]) (by simp[results,Tryz.results31,go_sem]) rfl ⟨none,0,rfl,?_,rfl,fun h=>absurd h (by simp)⟩;exact box5_below (below_drewN (Below.refl _ _) _) _ _ _ _ _
theorem srefuse_any (er:Nat) (he:er=1∨er=8) (b:Nat) (w:World) (A:Option Addr) (n c:Nat) (l:List Tok) (k o:Nat) (h:RdS b w A n c l k o):
  Calls Tryz.prog 17 #[.pointer (some ⟨b,0,none⟩),.int .i64 er] w fun e w'=>e= .returned (.tuple #[])∧RdS b w' A n c l k (if o=0 then er else o)∧w.grownBy w' (some b):=by
 have H:=Lib.hid h;obtain⟨c0,c1,c2,_,f2,_,_,_,_,_⟩:=h;by_cases o0:o=0
 ·subst o0
  rw[if_pos rfl];go_enter Tryz.func17,Tryz.ntmps17;go_wp2
  go_end0
  exact⟨rfl,H.out.fault er (.inr he),grown_set _ _ _ _⟩
 ·rw[if_neg o0]
  obtain⟨b1,b2,b3,b4⟩:=neq0_f o0;clear o0;go_enter Tryz.func17,Tryz.ntmps17;go_wp2
  go_end0
  exact⟨rfl,H.out,grown_below (Below.refl _ _)⟩
def isO (l:List Tok) (kd:Int) (s:Bs) (k o:Nat):Bool:=decide ((nxo l k o).kind=kd∧(nxo l k o).word=s)
theorem isO_zero (l:List Tok) (kd:Int) (s:Bs) (k:Nat):isO l kd s k 0=isT l kd s k:=rfl
theorem isO_bad (l:List Tok) {kd:Int} (hk:kd≠0) (s:Bs) (k:Nat) {o:Nat} (ho:¬ o=0):isO l kd s k o=false:=by
 unfold isO nxo;rw[if_neg ho];exact decide_eq_false fun e=>hk e.1.symm
theorem bytes_eq {t:Bs} {S W:ByteArray} (hS:S=⟨t.toArray⟩):(t=W.data.toList) ↔ S=W:=by
 subst hS
 constructor
 ·rintro rfl;rfl
 ·rintro rfl;rfl
end
section
theorem toList_ne {S W:ByteArray} (h:¬ S=W):(S.toList==W.toList)=false:=by
 rw[toList_data,toList_data];apply beq_false_of_ne;intro e;apply h
 cases S;cases W
 congr 1
 exact Array.toList_inj.1 e
theorem sisnext_any (kd:Int) (W:ByteArray) (b:Nat) (w:World) (A:Option Addr) (n c:Nat) (l:List Tok) (k o:Nat) (h:RdS b w A n c l k o):
  Calls Tryz.prog 103 #[.pointer (some ⟨b,0,none⟩),.int .i64 kd,.string W] w fun e w'=>e= .returned (.bool (isO l kd W.data.toList k o))∧Below w.heap.size w w':=by
 have K:=Lib.hid (snext_any b w A n c l k o h);unfold isO;generalize nxo l k o=t at K ⊢;unfold NextS at K;obtain⟨S,hS⟩:∃ S:ByteArray,S=⟨t.word.toArray⟩:=⟨_,rfl⟩;rw[←hS] at K;obtain⟨v,hv⟩:∃ v,v=decide (t.kind=kd∧t.word=W.data.toList):=⟨_,rfl⟩;rw[←hv];by_cases e1:t.kind=kd
 ·rw[e1] at K
  have b1:(kd==kd)=true:=by simp
  by_cases e2:S=W
  ·have HV:Hid (v=true):=Lib.hid (by rw[hv];exact decide_eq_true ⟨e1,(bytes_eq hS).2 e2⟩)
   subst e2;clear h hS hv e1;go_enter Tryz.func103,Tryz.ntmps103;go_wp2_with (go_at_call 31;go_must (((with_reducible refine K.out.mono ?_));rintro e w1 ⟨A1,c1,rfl,hb1,hr1⟩;have HB1:=Lib.hid hb1;clear hb1 hr1));go_ret;exact⟨by rw[HV.out];rfl,HB1.out.trans (((Below.refl _ _).alloc (Nat.le_refl _) _).mono HB1.out.size)⟩
  ·have HV:Hid (v=false):=Lib.hid (by rw[hv];exact decide_eq_false fun e=>e2 ((bytes_eq hS).1 e.2))
   have b2:(S.toList==W.toList)=false:=toList_ne e2;clear h hS hv e1 e2;go_enter Tryz.func103,Tryz.ntmps103;go_wp2_with (go_at_call 31;go_must (((with_reducible refine K.out.mono ?_));rintro e w1 ⟨A1,c1,rfl,hb1,hr1⟩;have HB1:=Lib.hid hb1;clear hb1 hr1));go_ret;exact⟨by rw[HV.out];rfl,HB1.out.trans (((Below.refl _ _).alloc (Nat.le_refl _) _).mono HB1.out.size)⟩
 ·have HV:Hid (v=false):=Lib.hid (by rw[hv];exact decide_eq_false fun e=>e1 e.1)
  generalize t.kind=x at K e1;have b1:(x==kd)=false:=by simpa using e1
  clear h hS hv e1;go_enter Tryz.func103,Tryz.ntmps103;go_wp2_with (go_at_call 31;go_must (((with_reducible refine K.out.mono ?_));rintro e w1 ⟨A1,c1,rfl,hb1,hr1⟩;have HB1:=Lib.hid hb1;clear hb1 hr1));go_ret;exact⟨by rw[HV.out];rfl,HB1.out.trans (((Below.refl _ _).alloc (Nat.le_refl _) _).mono HB1.out.size)⟩
abbrev StepS (b:Nat) (w:World) (A:Option Addr) (n c:Nat) (l:List Tok) (k o:Nat) (w':World):Prop:=w.grownBy w' (some b)∧RdS b w' A n c l k o
theorem isO_lt {l:List Tok} {kd:Int} {s:Bs} {k o:Nat} (hk:kd≠0) (h:isO l kd s k o=true):o=0∧isT l kd s k=true:=by
 by_cases ho:o=0
 ·subst ho;exact⟨rfl,h⟩
 ·rw[isO_bad l hk s k ho] at h;cases h
theorem stake_any (kd:Int) (hkd:kd≠0) (W:ByteArray) (b:Nat) (w:World) (A:Option Addr) (n c:Nat) (l:List Tok) (k o:Nat) (h:RdS b w A n c l k o):
  Calls Tryz.prog 61 #[.pointer (some ⟨b,0,none⟩),.int .i64 kd,.string W] w fun e w'=>e= .returned (.bool (isO l kd W.data.toList k o))∧StepS b w A n c l (if isO l kd W.data.toList k o=true then k+1 else k) o w':=by
 have K:=Lib.hid (sisnext_any kd W b w A n c l k o h);have H:=Lib.hid h;have hl:=h.len;have hle:=h.le
 cases hv:isO l kd W.data.toList k o with
 | true=>
   have hk:=isT_lt (isO_lt hkd hv).2 hkd;have HK:Hid (k+1≤n):=Lib.hid (by omega);have hk2:k≤1000000:=by omega
   rw[hv] at K;clear h hv hkd hk hl hle;go_enter Tryz.func61,Tryz.ntmps61;go_wp2_with (go_at_call 103;go_must (((with_reducible refine K.out.mono ?_));rintro e w1 ⟨rfl,hb1⟩;have HB1:=Lib.hid hb1;have h1:=H.out.low hb1;have H1:=Lib.hid h1;obtain⟨c0,c1,c2,f1,f2,_,_,_,_,_⟩:=h1;clear hb1));go_ret;exact⟨rfl,grown_trans (grown_below HB1.out) (grown_set _ _ _ _),H1.out.place (k+1) ((k:Int)+1) (by omega) HK.out⟩
 | false=>
   rw[hv] at K;clear h hv hkd hl hle;go_enter Tryz.func61,Tryz.ntmps61;go_wp2_with (go_at_call 103;go_must (((with_reducible refine K.out.mono ?_));rintro e w1 ⟨rfl,hb1⟩;have HB1:=Lib.hid hb1;clear hb1));go_ret;exact⟨rfl,grown_below HB1.out,H.out.low HB1.out⟩
theorem StepS.trans {b:Nat} {w w1 w2:World} {A:Option Addr} {n c:Nat} {l:List Tok} {k o k' o':Nat} (h:StepS b w A n c l k o w1) (h':StepS b w1 A n c l k' o' w2):StepS b w A n c l k' o' w2:=⟨grown_trans h.1 h'.1,h'.2⟩
theorem sneed_any (kd:Int) (hkd:kd≠0) (W:ByteArray) (b:Nat) (w:World) (A:Option Addr) (n c:Nat) (l:List Tok) (k o:Nat) (h:RdS b w A n c l k o):
  Calls Tryz.prog 100 #[.pointer (some ⟨b,0,none⟩),.int .i64 kd,.string W] w fun e w'=>e= .returned (.tuple #[])∧StepS b w A n c l (gate o k (needF l kd W.data.toList)).at (gate o k (needF l kd W.data.toList)).err w':=by
 have K:=Lib.hid (stake_any kd hkd W b w A n c l k o h)
 cases hv:isO l kd W.data.toList k o with
 | true=>
   obtain⟨h1,h2⟩:=isO_lt hkd hv;have e1:gate o k (needF l kd W.data.toList)= .ok () (k+1):=by rw[h1,gate_ok];unfold needF;rw[if_pos h2]
   rw[e1];show Calls _ _ _ _ fun e w'=>e= .returned (.tuple #[])∧StepS b w A n c l (k+1) 0 w'
   rw[hv,if_pos rfl,h1] at K;clear h hv h1 h2 e1;go_enter Tryz.func100,Tryz.ntmps100;go_wp2_with (go_at_call 61;go_must (((with_reducible refine K.out.mono ?_));rintro e w1 ⟨rfl,hb1⟩;have HB1:=Lib.hid hb1;clear hb1))
   go_end0
   exact⟨rfl,HB1.out⟩
 | false=>
   have e1:(gate o k (needF l kd W.data.toList)).at=k∧(gate o k (needF l kd W.data.toList)).err=if o=0 then 1 else o:=by
    rcases h.oks with rfl | ho
    ·rw[gate_ok]
     unfold needF;rw[if_neg (by rw[←isO_zero,hv];decide)];exact⟨rfl,rfl⟩
    ·rw[if_neg (by omega)];exact(gate_err ho).symm
   rw[e1.1,e1.2];rw[hv,if_neg (by decide)] at K;have KR:Hid (∀ w',RdS b w' A n c l k o→Calls Tryz.prog 17 #[.pointer (some ⟨b,0,none⟩),.int .i64 1] w' fun e w2=>e= .returned (.tuple #[])∧RdS b w2 A n c l k (if o=0 then 1 else o)∧w'.grownBy w2 (some b)):=Lib.hid fun w' h'=>srefuse_any 1 (.inl rfl) b w' A n c l k o h'
   clear h hv e1;generalize (if o=0 then 1 else o)=o2 at KR ⊢;go_enter Tryz.func100,Tryz.ntmps100;go_wp2_with (first | (go_at_call 61;go_must (((with_reducible refine K.out.mono ?_));rintro e w1 ⟨rfl,hb1⟩;have HB1:=Lib.hid hb1;clear hb1)) | (go_at_call 17;go_must (((with_reducible refine(KR.out _ HB1.out.2).mono ?_));rintro e w2 ⟨rfl,hr2,hg2⟩;have HB2:=Lib.hid (And.intro hg2 hr2);clear hr2 hg2)))
   go_end0
   exact⟨rfl,HB1.out.trans HB2.out⟩
structure Cx (b:Nat) (w W:World) (A:Option Addr) (n c:Nat) (l:List Tok) (k o:Nat) (bs:List (Nat × List Value)):Prop where
 lt:b<w.heap.size
 rd:RdS b W A n c l k o
 gr:w.grownBy W (some b)
 bx:∀ x∈bs,w.heap.size≤x.1∧0<x.2.length∧BoxL W x.1 x.2
 ap:bs.Pairwise fun x y=>y.1<x.1
section
variable {b:Nat} {w W W':World} {A:Option Addr} {n c:Nat} {l:List Tok} {k o k' o':Nat} {bs:List (Nat × List Value)}
theorem Cx.start (h:RdS b w A n c l k o):Cx b w w A n c l k o []:=⟨h.lt,h,grown_below (Below.refl _ _),by simp,List.Pairwise.nil⟩
theorem Cx.alloc (h:Cx b w W A n c l k o bs) (T:TypeId) (vs:List Value) (hv:0<vs.length):Cx b w (W.alloc (.cells vs.toArray T)) A n c l k o ((W.heap.size,vs)::bs):=by
 have hb:Below W.heap.size W (W.alloc (.cells vs.toArray T)):=(Below.refl _ _).alloc (Nat.le_refl _) _;refine⟨h.lt,h.rd.low hb,grown_trans h.gr (grown_below hb),fun x hx=>?_,List.Pairwise.cons (fun x hx=>(h.bx x hx).2.2.lt (h.bx x hx).2.1) h.ap⟩
 rcases List.mem_cons.1 hx with rfl | hx
 ·exact⟨h.gr.size,hv,BoxL.new _ _ _⟩
 ·obtain⟨h1,h2,h3⟩:=h.bx x hx
  exact⟨h1,h2,h3.low h2 hb⟩
theorem Cx.call (h:Cx b w W A n c l k o bs) (hs:StepS b W A n c l k' o' W'):Cx b w W' A n c l k' o' bs:=
 ⟨h.lt,hs.2,grown_trans h.gr hs.1,fun x hx=>by
  obtain⟨h1,h2,h3⟩:=h.bx x hx;exact⟨h1,h2,h3.grown h2 hs.1 (by have:=h.lt;omega)⟩,h.ap⟩
theorem Cx.below (h:Cx b w W A n c l k o bs) (hb:Below W.heap.size W W'):Cx b w W' A n c l k o bs:=h.call ⟨grown_below hb,h.rd.low hb⟩
theorem Cx.put (h:Cx b w W A n c l k o bs) (i:Nat) (q:Nat) (vs:List Value) (hi:bs[i]?=some (q,vs)) (j:Nat) (hj:j<vs.length) (u:Value):Cx b w (W.setCell ⟨q,j,none⟩ u) A n c l k o (bs.set i (q,vs.set j u)):=by
 have hm:=List.mem_of_getElem? hi;obtain⟨q1,q2,q3⟩:=h.bx _ hm;dsimp only at q1 q2 q3;have hlt:=h.lt;have hil:=(List.getElem?_eq_some_iff.1 hi).1;have hei:=(List.getElem?_eq_some_iff.1 hi).2;have ap:=h.ap;refine⟨h.lt,h.rd.other (a:=⟨q,j,none⟩) (by show b<q;omega) _,grown_setc h.gr q1 _ _,fun x hx=>?_,?_⟩
 ·obtain⟨m,hm,e⟩:=List.getElem_of_mem hx
  by_cases c:i=m
  ·subst c
   rw[List.getElem_set_self] at e;subst e;exact⟨q1,by simpa using q2,q3.set j hj u⟩
  ·rw[List.getElem_set_ne c] at e
   rw[List.length_set] at hm;obtain⟨h1,h2,h3⟩:=h.bx x (e ▸ List.getElem_mem hm);refine⟨h1,h2,h3.other (a:=⟨q,j,none⟩) ?_ _⟩;show q≠x.1;rw[List.pairwise_iff_getElem] at ap
   rcases Nat.lt_or_gt_of_ne c with c | c
   ·have:=ap i m hil hm c
    rw[hei,e] at this;dsimp only at this;omega
   ·have:=ap m i hm hil c
    rw[hei,e] at this;dsimp only at this;omega
 ·rw[List.pairwise_iff_getElem] at ap ⊢
  intro i1 i2 h1 h2 h12;rw[List.length_set] at h1 h2;have:=ap i1 i2 h1 h2 h12
  have key:∀ m (hm:m<bs.length) (hm':m<(bs.set i (q,vs.set j u)).length),((bs.set i (q,vs.set j u))[m]).1=(bs[m]).1:=by
   intro m hm hm';by_cases c:i=m
   ·subst c;rw[List.getElem_set_self,hei]
   ·rw[List.getElem_set_ne c]
  rw[key _ h1 _,key _ h2 _];exact this
theorem Cx.place (h:Cx b w W A n c l k o bs) (j:Nat) (z:Int) (hz:z=j) (hj:j≤n):Cx b w (W.setCell ⟨b,1,none⟩ (.int .i64 z)) A n c l j o bs:=
 h.call ⟨grown_set _ _ _ _,h.rd.place j z hz hj⟩
theorem Cx.put5 (h:Cx b w W A n c l k o bs) (i q:Nat) (u0 u1 u2 u3 u4:Value) (hi:bs[i]?=some (q,[u0,u1,u2,u3,u4])) (v0 v1 v2 v3 v4:Value):Cx b w (((((W.setCell ⟨q,0,none⟩ v0).setCell ⟨q,1,none⟩ v1).setCell ⟨q,2,none⟩ v2).setCell ⟨q,3,none⟩ v3).setCell ⟨q,4,none⟩ v4) A n c l k o (bs.set i (q,[v0,v1,v2,v3,v4])):=by
 have hl:=(List.getElem?_eq_some_iff.1 hi).1;have e:∀ x:Nat × List Value,(bs.set i x)[i]?=some x:=fun x=>List.getElem?_set_self hl
 have h0:=h.put i q _ hi 0 (by simp) v0;have h1:=h0.put i q _ (e _) 1 (by simp) v1;have h2:=h1.put i q _ (by rw[List.set_set];exact e _) 2 (by simp) v2;have h3:=h2.put i q _ (by rw[List.set_set,List.set_set];exact e _) 3 (by simp) v3;have h4:=h3.put i q _ (by rw[List.set_set,List.set_set,List.set_set];exact e _) 4 (by simp) v4;rw[List.set_set,List.set_set,List.set_set,List.set_set] at h4;exact h4
theorem Cx.drew (h:Cx b w W A n c l k o bs):Cx b w W.drew A n c l k o bs:=h.below ((Below.refl _ _).drew)
theorem Cx.step (h:Cx b w W A n c l k o bs):StepS b w A n c l k o W:=⟨h.gr,h.rd⟩
theorem Cx.box (h:Cx b w W A n c l k o bs) (i q:Nat) (vs:List Value) (hi:bs[i]?=some (q,vs)):BoxL W q vs:=(h.bx _ (List.mem_of_getElem? hi)).2.2
theorem Cx.has (h:Cx b w W A n c l k o bs) (i q:Nat) (vs:List Value) (hi:bs[i]?=some (q,vs)):w.heap.size≤q∧q<W.heap.size:=⟨(h.bx _ (List.mem_of_getElem? hi)).1,(h.box i q vs hi).lt (h.bx _ (List.mem_of_getElem? hi)).2.1⟩
theorem Cx.one {q:Nat} {vs:List Value} (h:Cx b w W A n c l k o ((q,vs)::bs)):b<w.heap.size∧w.heap.size≤q∧q<W.heap.size:=⟨h.lt,h.has 0 q vs rfl⟩
theorem Cx.two {q q':Nat} {vs vs':List Value} (h:Cx b w W A n c l k o ((q,vs)::(q',vs')::bs)):b<w.heap.size∧w.heap.size≤q'∧q'<q∧q<W.heap.size:=
 ⟨h.lt,(h.has 1 q' vs' rfl).1,(List.pairwise_cons.1 h.ap).1 (q',vs') (by simp),(h.has 0 q vs rfl).2⟩
theorem Cx.three {q q' q2:Nat} {vs vs' vs2:List Value} (h:Cx b w W A n c l k o ((q,vs)::(q',vs')::(q2,vs2)::bs)):b<w.heap.size∧w.heap.size≤q2∧q2<q'∧q'<q∧q<W.heap.size:=
 ⟨h.lt,(h.has 2 q2 vs2 rfl).1,(List.pairwise_cons.1 (List.pairwise_cons.1 h.ap).2).1 (q2,vs2) (by simp),(List.pairwise_cons.1 h.ap).1 (q',vs') (by simp),(h.has 0 q vs rfl).2⟩
end
theorem Rd.back {B:Nat} {w w':World} {A:Option Addr} {n:Nat} {ps:List Pt} (h:Rd B w' A n ps) (hb:Below B w w'):Rd B w A n ps:=
 ⟨h.1,fun hn=>by obtain⟨ad,e,hr⟩:=h.2 hn;exact⟨ad,e,hr.1,fun j u hu=>(hb.cell (by rw[block_of_add];exact hr.1)).symm.trans (hr.2 j u hu)⟩⟩
theorem Cx.low {b:Nat} {w W:World} {A:Option Addr} {n c:Nat} {l:List Tok} {k o:Nat} {bs:List (Nat × List Value)} (h:Cx b w W A n c l k o bs):Below b w W:=below_of_grown h.gr (Nat.le_refl _) (Nat.le_of_lt h.lt)
theorem tokF0 (k n pl:Int) (S:ByteArray) (A:Option Addr) (m c:Nat) (w:World):(Instr.field 53 (.agg #[.int .i64 k,.string S,.int .i64 n,.slice A m c,.int .i64 pl]) 0).run Tryz.prog w= .ok (.int .i64 k) w:=by kernel_rfl
theorem tokF1 (k n pl:Int) (S:ByteArray) (A:Option Addr) (m c:Nat) (w:World):(Instr.field 53 (.agg #[.int .i64 k,.string S,.int .i64 n,.slice A m c,.int .i64 pl]) 1).run Tryz.prog w= .ok (.string S) w:=by kernel_rfl
theorem tokF2 (k n pl:Int) (S:ByteArray) (A:Option Addr) (m c:Nat) (w:World):(Instr.field 53 (.agg #[.int .i64 k,.string S,.int .i64 n,.slice A m c,.int .i64 pl]) 2).run Tryz.prog w= .ok (.int .i64 n) w:=by kernel_rfl
theorem tokF3 (k n pl:Int) (S:ByteArray) (A:Option Addr) (m c:Nat) (w:World):(Instr.field 53 (.agg #[.int .i64 k,.string S,.int .i64 n,.slice A m c,.int .i64 pl]) 3).run Tryz.prog w= .ok (.slice A m c) w:=by kernel_rfl
theorem tokF4 (k n pl:Int) (S:ByteArray) (A:Option Addr) (m c:Nat) (w:World):(Instr.field 53 (.agg #[.int .i64 k,.string S,.int .i64 n,.slice A m c,.int .i64 pl]) 4).run Tryz.prog w= .ok (.int .i64 pl) w:=by kernel_rfl
theorem BoxL.all2 {w:World} {c:Nat} {v0 v1:Value} (h:BoxL w c [v0,v1]):w.cell? ⟨c,0,none⟩=some v0∧w.cell? ⟨c,1,none⟩=some v1:=
 ⟨h.at_ 0 _ rfl,h.at_ 1 _ rfl⟩
theorem BoxL.fre2 {w:World} {c:Nat} {v0 v1:Value} (h:BoxL w c [v0,v1]):w.frozen? ⟨c,0,none⟩=false∧w.frozen? ⟨c,1,none⟩=false:=
 ⟨h.fr 0 (by simp),h.fr 1 (by simp)⟩
theorem BoxL.all5 {w:World} {c:Nat} {v0 v1 v2 v3 v4:Value} (h:BoxL w c [v0,v1,v2,v3,v4]):w.cell? ⟨c,0,none⟩=some v0∧w.cell? ⟨c,1,none⟩=some v1∧w.cell? ⟨c,2,none⟩=some v2∧w.cell? ⟨c,3,none⟩=some v3∧w.cell? ⟨c,4,none⟩=some v4:=
 ⟨h.at_ 0 _ rfl,h.at_ 1 _ rfl,h.at_ 2 _ rfl,h.at_ 3 _ rfl,h.at_ 4 _ rfl⟩
theorem BoxL.fre5 {w:World} {c:Nat} {v0 v1 v2 v3 v4:Value} (h:BoxL w c [v0,v1,v2,v3,v4]):w.frozen? ⟨c,0,none⟩=false∧w.frozen? ⟨c,1,none⟩=false∧w.frozen? ⟨c,2,none⟩=false∧w.frozen? ⟨c,3,none⟩=false∧w.frozen? ⟨c,4,none⟩=false:=
 ⟨h.fr 0 (by simp),h.fr 1 (by simp),h.fr 2 (by simp),h.fr 3 (by simp),h.fr 4 (by simp)⟩
theorem BoxL.all6 {w:World} {c:Nat} {v0 v1 v2 v3 v4 v5:Value} (h:BoxL w c [v0,v1,v2,v3,v4,v5]):w.cell? ⟨c,0,none⟩=some v0∧w.cell? ⟨c,1,none⟩=some v1∧w.cell? ⟨c,2,none⟩=some v2∧w.cell? ⟨c,3,none⟩=some v3∧w.cell? ⟨c,4,none⟩=some v4∧w.cell? ⟨c,5,none⟩=some v5:=
 ⟨h.at_ 0 _ rfl,h.at_ 1 _ rfl,h.at_ 2 _ rfl,h.at_ 3 _ rfl,h.at_ 4 _ rfl,h.at_ 5 _ rfl⟩
theorem BoxL.fre6 {w:World} {c:Nat} {v0 v1 v2 v3 v4 v5:Value} (h:BoxL w c [v0,v1,v2,v3,v4,v5]):w.frozen? ⟨c,0,none⟩=false∧w.frozen? ⟨c,1,none⟩=false∧w.frozen? ⟨c,2,none⟩=false∧w.frozen? ⟨c,3,none⟩=false∧w.frozen? ⟨c,4,none⟩=false∧w.frozen? ⟨c,5,none⟩=false:=
 ⟨h.fr 0 (by simp),h.fr 1 (by simp),h.fr 2 (by simp),h.fr 3 (by simp),h.fr 4 (by simp),h.fr 5 (by simp)⟩
theorem BoxL.all13 {w:World} {c:Nat} {v0 v1 v2 v3 v4 v5 v6 v7 v8 v9 v10 v11 v12:Value} (h:BoxL w c [v0,v1,v2,v3,v4,v5,v6,v7,v8,v9,v10,v11,v12]):w.cell? ⟨c,0,none⟩=some v0∧w.cell? ⟨c,1,none⟩=some v1∧w.cell? ⟨c,2,none⟩=some v2∧w.cell? ⟨c,3,none⟩=some v3∧w.cell? ⟨c,4,none⟩=some v4∧w.cell? ⟨c,5,none⟩=some v5∧w.cell? ⟨c,6,none⟩=some v6∧w.cell? ⟨c,7,none⟩=some v7∧w.cell? ⟨c,8,none⟩=some v8∧w.cell? ⟨c,9,none⟩=some v9∧w.cell? ⟨c,10,none⟩=some v10∧w.cell? ⟨c,11,none⟩=some v11∧w.cell? ⟨c,12,none⟩=some v12:=
 ⟨h.at_ 0 _ rfl,h.at_ 1 _ rfl,h.at_ 2 _ rfl,h.at_ 3 _ rfl,h.at_ 4 _ rfl,h.at_ 5 _ rfl,h.at_ 6 _ rfl,h.at_ 7 _ rfl,h.at_ 8 _ rfl,h.at_ 9 _ rfl,h.at_ 10 _ rfl,h.at_ 11 _ rfl,h.at_ 12 _ rfl⟩
theorem BoxL.fre13 {w:World} {c:Nat} {v0 v1 v2 v3 v4 v5 v6 v7 v8 v9 v10 v11 v12:Value} (h:BoxL w c [v0,v1,v2,v3,v4,v5,v6,v7,v8,v9,v10,v11,v12]):w.frozen? ⟨c,0,none⟩=false∧w.frozen? ⟨c,1,none⟩=false∧w.frozen? ⟨c,2,none⟩=false∧w.frozen? ⟨c,3,none⟩=false∧w.frozen? ⟨c,4,none⟩=false∧w.frozen? ⟨c,5,none⟩=false∧w.frozen? ⟨c,6,none⟩=false∧w.frozen? ⟨c,7,none⟩=false∧w.frozen? ⟨c,8,none⟩=false∧w.frozen? ⟨c,9,none⟩=false∧w.frozen? ⟨c,10,none⟩=false∧w.frozen? ⟨c,11,none⟩=false∧w.frozen? ⟨c,12,none⟩=false:=
 ⟨h.fr 0 (by simp),h.fr 1 (by simp),h.fr 2 (by simp),h.fr 3 (by simp),h.fr 4 (by simp),h.fr 5 (by simp),h.fr 6 (by simp),h.fr 7 (by simp),h.fr 8 (by simp),h.fr 9 (by simp),h.fr 10 (by simp),h.fr 11 (by simp),h.fr 12 (by simp)⟩
end
abbrev zeroT:List Value:=[.int .i64 0,.string ⟨#[]⟩,.int .i64 0,.slice none 0 0,.int .i64 0]
def TokS (b:Nat) (w:World) (A:Option Addr) (n c:Nat) (l:List Tok) (R:Rz Tok) (e:Ending) (w':World):Prop:=
 ∃ t A' c',e= .returned (.agg #[.int .i64 t.kind,.string ⟨t.word.toArray⟩,.int .i64 t.n,.slice A' t.parts.length c',.int .i64 t.pl])∧StepS b w A n c l R.at R.err w'∧Rd b w' A' t.parts.length t.parts∧∀ y j,R= .ok y j→y=t
theorem sneedkind_any (kd:Int) (hkd:kd≠0) (b:Nat) (w:World) (A:Option Addr) (n c:Nat) (l:List Tok) (k o:Nat) (h:RdS b w A n c l k o):
  Calls Tryz.prog 58 #[.pointer (some ⟨b,0,none⟩),.int .i64 kd] w (TokS b w A n c l (gate o k (kindF l kd))):=by
 have K:Hid (∀ w',RdS b w' A n c l k o→Calls Tryz.prog 31 #[.pointer (some ⟨b,0,none⟩)] w' (NextS b w' (nxo l k o))):=Lib.hid fun w' h'=>snext_any b w' A n c l k o h'
 have H:=Lib.hid (Cx.start h);have hle:=h.le;have hl:=h.len;by_cases e1:(nxo l k o).kind=kd
 ·have ho:o=0:=by
   by_cases ho:o=0
   ·exact ho
   ·unfold nxo at e1;rw[if_neg ho] at e1;exact absurd e1.symm hkd
  subst ho;have eR:gate 0 k (kindF l kd)= .ok (nxo l k 0) (k+1):=by rw[gate_ok];exact if_pos e1
  have hk:k<l.length:=nxz_lt (by show (nxo l k 0).kind≠0;rw[e1];exact hkd);have HK:Hid (k+1≤n):=Lib.hid (by omega);have hk2:k≤1000000:=by omega
  rw[eR];generalize nxo l k 0=t at K e1 ⊢;unfold NextS at K
  suffices hs:Calls Tryz.prog 58 #[.pointer (some ⟨b,0,none⟩),.int .i64 kd] w fun e w'=>∃ A' c',e= .returned (.agg #[.int .i64 t.kind,.string ⟨t.word.toArray⟩,.int .i64 t.n,.slice A' t.parts.length c',.int .i64 t.pl])∧StepS b w A n c l (k+1) 0 w'∧Rd b w' A' t.parts.length t.parts from
   hs.mono fun e w' ⟨A',c',h1,h2,h3⟩=>⟨t,A',c',h1,h2,h3,fun y j hy=>by injection hy with hy;exact hy.symm⟩
  obtain⟨S,hS⟩:∃ S:ByteArray,S=⟨t.word.toArray⟩:=⟨_,rfl⟩;rw[←hS] at K ⊢;rw[e1] at K ⊢;have b1:(kd != kd)=false:=by simp
  clear h hkd hl hle hk eR e1 hS;go_enter Tryz.func58,Tryz.ntmps58;go_wp2_with (go_at_call 31;go_must (((with_reducible refine(K.out _ (H.out.rd.box _)).mono ?_));rintro e w1 ⟨A1,c1,rfl,hb1,hr1⟩;have HC:=Lib.hid (((H.out.alloc 53 zeroT (by simp)).below hb1).alloc 53 [.int .i64 kd,.string S,.int .i64 t.n,.slice A1 t.parts.length c1,.int .i64 t.pl] (by simp));have HR1:=Lib.hid (hr1.back (H.out.alloc 53 zeroT (by simp)).low);obtain⟨d0,d1,d2,d3,d4,_,_,_,_,_⟩:=HC.out.rd;obtain⟨q0,q1,q2,q3⟩:=HC.out.two;obtain⟨g0,g1,g2,g3,g4⟩:=(HC.out.box 1 w.heap.size zeroT rfl).all5;obtain⟨j0,j1,j2,j3,j4⟩:=(HC.out.box 1 w.heap.size zeroT rfl).fre5;clear hb1 hr1));have HE:=(HC.out.place (k+1) ((k:Int)+1) (by omega) HK.out).put5 1 w.heap.size _ _ _ _ _ rfl (.int .i64 kd) (.string S) (.int .i64 t.n) (.slice A1 t.parts.length c1) (.int .i64 t.pl);obtain⟨r0,r1,r2,r3,r4⟩:=(HE.box 1 w.heap.size _ rfl).all5;refine bodyPost_ret (v:= .agg #[.int .i64 kd,.string S,.int .i64 t.n,.slice A1 t.parts.length c1,.int .i64 t.pl]) (by simp[results,Tryz.results58,go_sem,r0,r1,r2,r3,r4]) rfl ⟨A1,c1,rfl,?_⟩;exact⟨HE.step,HR1.out.keep HE.low⟩
 ·have eR:(gate o k (kindF l kd)).at=k∧(gate o k (kindF l kd)).err=(if o=0 then 1 else o)∧∀ y j,gate o k (kindF l kd)≠ .ok y j:=by
   rcases h.oks with rfl | ho
   ·have:gate 0 k (kindF l kd)= .bad k false:=by rw[gate_ok];exact if_neg e1
    rw[this];exact⟨rfl,rfl,fun _ _ e=>by cases e⟩
   ·rw[if_neg (by omega)];exact⟨(gate_err ho).2,(gate_err ho).1,fun _ _=>gate_bad (by omega)⟩
  unfold TokS;rw[eR.1,eR.2.1]
  suffices hs:Calls Tryz.prog 58 #[.pointer (some ⟨b,0,none⟩),.int .i64 kd] w fun e w'=>e= .returned (.agg #[.int .i64 0,.string ⟨#[]⟩,.int .i64 0,.slice none 0 0,.int .i64 0])∧StepS b w A n c l k (if o=0 then 1 else o) w' from
   hs.mono fun e w' ⟨h1,h2⟩=>⟨tokZ,none,0,h1,h2,⟨rfl,fun h=>absurd h (by simp[tokZ])⟩,fun y j hy=>absurd hy (eR.2.2 y j)⟩
  have KR:Hid (∀ w',RdS b w' A n c l k o→Calls Tryz.prog 17 #[.pointer (some ⟨b,0,none⟩),.int .i64 1] w' fun e w2=>e= .returned (.tuple #[])∧RdS b w2 A n c l k (if o=0 then 1 else o)∧w'.grownBy w2 (some b)):=Lib.hid fun w' h'=>srefuse_any 1 (.inl rfl) b w' A n c l k o h'
  generalize (if o=0 then 1 else o)=o2 at KR ⊢;generalize nxo l k o=t at K e1;unfold NextS at K;generalize t.kind=x at K e1;have b1:(x != kd)=true:=by simpa using e1
  clear h hkd hl hle eR e1;go_enter Tryz.func58,Tryz.ntmps58;go_wp2_with (first | (go_at_call 31;go_must (((with_reducible refine(K.out _ (H.out.rd.box _)).mono ?_));rintro e w1 ⟨A1,c1,rfl,hb1,hr1⟩;have HC:=Lib.hid (((H.out.alloc 53 zeroT (by simp)).below hb1).alloc 53 [.int .i64 x,.string ⟨t.word.toArray⟩,.int .i64 t.n,.slice A1 t.parts.length c1,.int .i64 t.pl] (by simp));clear hb1 hr1)) | (go_at_call 17;go_must (((with_reducible refine(KR.out _ HC.out.rd).mono ?_));rintro e w2 ⟨rfl,hr2,hg2⟩;have HD:=Lib.hid (HC.out.call ⟨hg2,hr2⟩);obtain⟨q0,q1,q2,q3⟩:=HD.out.two;obtain⟨g0,g1,g2,g3,g4⟩:=(HD.out.box 1 w.heap.size zeroT rfl).all5;obtain⟨j0,j1,j2,j3,j4⟩:=(HD.out.box 1 w.heap.size zeroT rfl).fre5;clear hr2 hg2)));have HE:=HD.out.put5 1 w.heap.size _ _ _ _ _ rfl (.int .i64 0) (.string ⟨#[]⟩) (.int .i64 0) (.slice none 0 0) (.int .i64 0);obtain⟨r0,r1,r2,r3,r4⟩:=(HE.box 1 w.heap.size _ rfl).all5;exact bodyPost_ret (v:= .agg #[.int .i64 0,.string ⟨#[]⟩,.int .i64 0,.slice none 0 0,.int .i64 0]) (by simp[results,Tryz.results58,go_sem,r0,r1,r2,r3,r4]) rfl ⟨rfl,HE.step⟩
theorem then_map {α β:Type} (R:Rz α) (g:α→β):(R.then fun x j=> .ok (g x) j).at=R.at∧(R.then fun x j=> .ok (g x) j).err=R.err∧∀ x,(∀ y j,R= .ok y j→y=x)→∀ y j,(R.then fun x j=> .ok (g x) j)= .ok y j→y=g x:=by
 cases R with
 | ok x j=>exact⟨rfl,rfl,fun z hz y i h=>by have:=hz x j rfl;subst this;injection h with h;exact h.symm⟩
 | bad j d=>exact⟨rfl,rfl,fun z hz y i h=>by cases h⟩
def NameS (b:Nat) (w:World) (A:Option Addr) (n c:Nat) (l:List Tok) (R:Rz Bs) (e:Ending) (w':World):Prop:=∃ s:Bs,e= .returned (.string ⟨s.toArray⟩)∧StepS b w A n c l R.at R.err w'∧∀ y j,R= .ok y j→y=s
theorem sname_any (b:Nat) (w:World) (A:Option Addr) (n c:Nat) (l:List Tok) (k o:Nat) (h:RdS b w A n c l k o):
  Calls Tryz.prog 56 #[.pointer (some ⟨b,0,none⟩)] w (NameS b w A n c l (gate o k (nameF l))):=by
 have K:Hid (∀ w',RdS b w' A n c l k o→Calls Tryz.prog 31 #[.pointer (some ⟨b,0,none⟩)] w' (NextS b w' (nxo l k o))):=Lib.hid fun w' h'=>snext_any b w' A n c l k o h'
 have H:=Lib.hid (Cx.start h);have KR:Hid (∀ w',RdS b w' A n c l k o→Calls Tryz.prog 17 #[.pointer (some ⟨b,0,none⟩),.int .i64 1] w' fun e w2=>e= .returned (.tuple #[])∧RdS b w2 A n c l k (if o=0 then 1 else o)∧w'.grownBy w2 (some b)):=Lib.hid fun w' h'=>srefuse_any 1 (.inl rfl) b w' A n c l k o h'
 have hw:(nxo l k o).word.length≤100000:=by
  unfold nxo
  split
  ·by_cases c:k<l.length
   ·rw[nxz_at (List.getElem?_eq_getElem c)];exact(h.fit.fit _ (List.getElem_mem c)).word
   ·rw[nxz_end c];decide
  ·decide
 have KN:Hid (∀ w',Calls Tryz.prog 99 #[.string ⟨(nxo l k o).word.toArray⟩] w' fun e w2=>e= .returned (.bool (isName (nxo l k o).word))∧w'=w2):=Lib.hid fun w'=>by
  have:=name_any ⟨(nxo l k o).word.toArray⟩ (by simp[ByteArray.size];omega) w';simpa using this
 have KK:∀ o,Hid (∀ w',RdS b w' A n c l k o→Calls Tryz.prog 58 #[.pointer (some ⟨b,0,none⟩),.int .i64 1] w' (TokS b w' A n c l (gate o k (kindF l 1)))):=fun o=>Lib.hid fun w' h'=>sneedkind_any 1 (by decide) b w' A n c l k o h'
 cases hn:isName (nxo l k o).word with
 | true=>
   have ho:o=0:=by
    by_cases ho:o=0
    ·exact ho
    ·unfold nxo at hn;rw[if_neg ho] at hn;exact absurd hn (by decide)
   subst ho
   have eR:gate 0 k (nameF l)=(kindF l 1 k).then fun t j=> .ok t.word j:=by
    rw[gate_ok];unfold nameF kindF;by_cases c:(nxz l k).kind=1
    ·rw[if_pos ⟨c,hn⟩,if_pos c];rfl
    ·rw[if_neg (fun e=>c e.1),if_neg c];rfl
   have KK:=KK 0;rw[gate_ok] at KK;rw[eR];rw[hn] at KN;clear KR eR hn h hw;unfold NameS;rw[(then_map (kindF l 1 k) (fun t=>t.word)).1,(then_map (kindF l 1 k) (fun t=>t.word)).2.1]
   suffices hs:Calls Tryz.prog 56 #[.pointer (some ⟨b,0,none⟩)] w fun e w'=>∃ t:Tok,e= .returned (.string ⟨t.word.toArray⟩)∧StepS b w A n c l (kindF l 1 k).at (kindF l 1 k).err w'∧∀ y j,kindF l 1 k= .ok y j→y=t from
    hs.mono fun e w' ⟨t,h1,h2,h3⟩=>⟨t.word,h1,h2,(then_map (kindF l 1 k) (fun t=>t.word)).2.2 t h3⟩
   generalize kindF l 1 k=R at KK ⊢;generalize nxo l k 0=t0 at K KN;unfold NextS at K;unfold TokS at KK;have tf:=tokF1;go_enter Tryz.func56,Tryz.ntmps56;go_wp2_with (first | (go_at_call 31;go_must (((with_reducible refine(K.out _ H.out.rd).mono ?_));rintro e w1 ⟨A1,c1,rfl,hb1,hr1⟩;have HC:=Lib.hid (H.out.below hb1);clear hb1 hr1)) | (go_at_call 99;go_must (((with_reducible refine(KN.out _).mono ?_));rintro e w2 ⟨rfl,rfl⟩)) | (go_at_call 58;go_must (((with_reducible refine(KK.out _ HC.out.rd).mono ?_));rintro e w2 ⟨t,A2,c2,rfl,hs2,hr2,hv2⟩;have HD:=Lib.hid (HC.out.call hs2);have HV:=Lib.hid hv2;clear hs2 hr2 hv2)));go_ret;exact⟨t,rfl,HD.out.step,HV.out⟩
 | false=>
   have eR:(gate o k (nameF l)).at=k∧(gate o k (nameF l)).err=(if o=0 then 1 else o)∧∀ y j,gate o k (nameF l)≠ .ok y j:=by
    rcases h.oks with rfl | ho
    ·have:gate 0 k (nameF l)= .bad k false:=by
      rw[gate_ok];exact if_neg (fun e=>by have:=e.2;rw[show (nxz l k).word=(nxo l k 0).word from rfl,hn] at this;cases this)
     rw[this];exact⟨rfl,rfl,fun _ _ e=>by cases e⟩
    ·rw[if_neg (by omega)];exact⟨(gate_err ho).2,(gate_err ho).1,fun _ _=>gate_bad (by omega)⟩
   unfold NameS;rw[eR.1,eR.2.1];have ho2:(if o=0 then 1 else o)≠0:=by split <;> omega
   have KK:=KK (if o=0 then 1 else o)
   have eK:(gate (if o=0 then 1 else o) k (kindF l 1)).at=k∧(gate (if o=0 then 1 else o) k (kindF l 1)).err=(if o=0 then 1 else o):=by
    have:=gate_err (α:=Tok) (o:=if o=0 then 1 else o) (k:=k) (F:=kindF l 1) (by have:=h.oks;split <;> omega);exact⟨this.2,this.1⟩
   suffices hs:Calls Tryz.prog 56 #[.pointer (some ⟨b,0,none⟩)] w fun e w'=>∃ t:Tok,e= .returned (.string ⟨t.word.toArray⟩)∧StepS b w A n c l k (if o=0 then 1 else o) w' from
    hs.mono fun e w' ⟨t,h1,h2⟩=>⟨t.word,h1,h2,fun y j hy=>absurd hy (eR.2.2 y j)⟩
   unfold TokS at KK;rw[eK.1,eK.2] at KK;rw[hn] at KN;clear eK eR hn hw h ho2;generalize (if o=0 then 1 else o)=o2 at KR KK ⊢;generalize nxo l k o=t0 at K KN;unfold NextS at K;have tf:=tokF1;go_enter Tryz.func56,Tryz.ntmps56;go_wp2_with (first | (go_at_call 31;go_must (((with_reducible refine(K.out _ H.out.rd).mono ?_));rintro e w1 ⟨A1,c1,rfl,hb1,hr1⟩;have HC:=Lib.hid (H.out.below hb1);clear hb1 hr1)) | (go_at_call 99;go_must (((with_reducible refine(KN.out _).mono ?_));rintro e w2 ⟨rfl,rfl⟩)) | (go_at_call 17;go_must (((with_reducible refine(KR.out _ HC.out.rd).mono ?_));rintro e w2 ⟨rfl,hr2,hg2⟩;have HB:=Lib.hid (HC.out.call ⟨hg2,hr2⟩);clear hr2 hg2)) | (go_at_call 58;go_must (((with_reducible refine(KK.out _ HB.out.rd).mono ?_));rintro e w3 ⟨t,A2,c2,rfl,hs2,hr2,hv2⟩;have HD:=Lib.hid (HB.out.call hs2);clear hs2 hr2 hv2)));go_ret;exact⟨t,rfl,HD.out.step⟩
section
def NumS (b:Nat) (w:World) (A:Option Addr) (n c:Nat) (l:List Tok) (R:Rz Int) (e:Ending) (w':World):Prop:=∃ z:Int,e= .returned (.int .i64 z)∧StepS b w A n c l R.at R.err w'∧∀ y j,R= .ok y j→y=z
section
variable {b:Nat} {A:Option Addr} {n c:Nat} {l:List Tok}
theorem kindF_fit {k kd:Nat} {t:Tok} {j:Nat} (hf:FitL l) (hk:kd≠0) (h:kindF l kd k= .ok t j):FitT t∧okT t=true∧t.kind=kd:=by
 unfold kindF at h
 split at h
 ·rename_i c
  injection h with h _
  subst h;have hk:k<l.length:=nxz_lt (by rw[c];omega);rw[nxz_at (List.getElem?_eq_getElem hk)] at c ⊢;exact⟨hf.fit _ (List.getElem_mem hk),hf.ok _ (List.getElem_mem hk),c⟩
 ·cases h
theorem num_nonneg {t:Tok} (ho:okT t=true) (hk:t.kind=2):0≤t.n:=by
 unfold okT at ho;rw[if_pos hk] at ho;simp at ho;exact ho.1.2
theorem wrap_neg {z:Int} (h:0≤z∧z≤9223372036854775807):wrap64 (-z)= -z:=by
 exact IntWalk.wrap64_in _ (by omega)
end
abbrev KindC (b:Nat) (A:Option Addr) (n c:Nat) (l:List Tok) (kd:Int) (k o:Nat) (R:Rz Tok):Prop:=Hid (∀ w',RdS b w' A n c l k o→Calls Tryz.prog 58 #[.pointer (some ⟨b,0,none⟩),.int .i64 kd] w' fun e w2=>
 ∃ t A' c',e= .returned (.agg #[.int .i64 t.kind,.string ⟨t.word.toArray⟩,.int .i64 t.n,.slice A' t.parts.length c',.int .i64 t.pl])∧StepS b w' A n c l R.at R.err w2∧Rd b w2 A' t.parts.length t.parts∧∀ y j,R= .ok y j→y=t)
theorem kindC (b:Nat) (A:Option Addr) (n c:Nat) (l:List Tok) (kd:Int) (k o:Nat) (hkd:kd≠0) {R:Rz Tok} (hR:gate o k (kindF l kd)=R):KindC b A n c l kd k o R:=Lib.hid fun w' h'=>by subst hR;exact sneedkind_any kd hkd b w' A n c l k o h'
abbrev TakeC (b:Nat) (A:Option Addr) (n c:Nat) (l:List Tok) (kd:Int) (W:ByteArray) (k o:Nat) (v:Bool) (j:Nat):Prop:=Hid (∀ w',RdS b w' A n c l k o→Calls Tryz.prog 61 #[.pointer (some ⟨b,0,none⟩),.int .i64 kd,.string W] w' fun e w2=>e= .returned (.bool v)∧StepS b w' A n c l j o w2)
theorem takeC_t {b:Nat} {A:Option Addr} {n c:Nat} {l:List Tok} {kd:Int} {W:ByteArray} {k o:Nat} (hkd:kd≠0) (h:isO l kd W.data.toList k o=true):TakeC b A n c l kd W k o true (k+1):=Lib.hid fun w' h'=>by
 have:=stake_any kd hkd W b w' A n c l k o h';rw[h] at this;exact this
theorem takeC_f {b:Nat} {A:Option Addr} {n c:Nat} {l:List Tok} {kd:Int} {W:ByteArray} {k o:Nat} (hkd:kd≠0) (h:isO l kd W.data.toList k o=false):TakeC b A n c l kd W k o false k:=Lib.hid fun w' h'=>by
 have:=stake_any kd hkd W b w' A n c l k o h';rw[h] at this;exact this
theorem snum_neg (b:Nat) (w:World) (A:Option Addr) (n c:Nat) (l:List Tok) (k:Nat) (h:RdS b w A n c l k 0) (hi:isO l 4 [45] k 0=true):
  Calls Tryz.prog 57 #[.pointer (some ⟨b,0,none⟩),.int .i64 3] w (NumS b w A n c l (gate 0 k (numF l 3))):=by
 have KT:=takeC_t (b:=b) (A:=A) (n:=n) (c:=c) (W:=⟨#[45]⟩) (by decide) hi;have KK:=kindC b A n c l 2 (k+1) 0 (by decide) (gate_ok _ _);have H:=Lib.hid (Cx.start h)
 have eR:gate 0 k (numF l 3)=(kindF l 2 (k+1)).then fun t j=> .ok (-t.n) j:=by
  rw[gate_ok];unfold numF;rw[if_pos ⟨rfl,hi⟩]
 rw[eR];have hm:=then_map (kindF l 2 (k+1)) (fun t=> -t.n);unfold NumS;rw[hm.1,hm.2.1]
 have HF:Hid (∀ y j,kindF l 2 (k+1)= .ok y j→0≤y.n∧y.n≤9223372036854775807):=Lib.hid fun y j hy=>by
  have:=kindF_fit (kd:=2) h.fit (by decide) hy;exact⟨num_nonneg this.2.1 this.2.2,this.1.n.2⟩
 have HM:=Lib.hid hm.2.2;generalize kindF l 2 (k+1)=R at KK HM HF ⊢;clear hm eR h hi;have tf:=tokF2;go_enter Tryz.func57,Tryz.ntmps57;go_wp2_with (first | (go_at_call 61;go_must (((with_reducible refine(KT.out _ H.out.rd).mono ?_));rintro e w1 ⟨rfl,hs1⟩;have HC:=Lib.hid (H.out.call hs1);clear hs1)) | (go_at_call 58;go_must (((with_reducible refine(KK.out _ HC.out.rd).mono ?_));rintro e w2 ⟨t,A2,c2,rfl,hs2,hr2,hv2⟩;have HD:=Lib.hid (HC.out.call hs2);have HV:=Lib.hid hv2;clear hs2 hr2 hv2)));go_ret;refine⟨_,rfl,HD.out.step,fun y j hy=>?_⟩;obtain⟨t',i,h1,h2⟩:=Rz.then_ok hy;have:=HV.out t' i h1;subst this;injection h2 with h2
 rw[←h2,wrap_neg (HF.out _ _ h1)]
theorem sneed_num {b:Nat} {w w':World} {A:Option Addr} {n c:Nat} {l:List Tok} {R:Rz Tok} {t:Tok} (hs:StepS b w A n c l R.at R.err w') (hv:∀ y j,R= .ok y j→y=t):NumS b w A n c l (R.then fun t j=> .ok t.n j) (.returned (.int .i64 t.n)) w':=by
 have hm:=then_map R (fun t=>t.n);exact⟨t.n,rfl,by rw[hm.1,hm.2.1];exact hs,hm.2.2 t hv⟩
theorem snum_pos3 (b:Nat) (w:World) (A:Option Addr) (n c:Nat) (l:List Tok) (k o:Nat) (h:RdS b w A n c l k o) (hi:isO l 4 [45] k o=false):
  Calls Tryz.prog 57 #[.pointer (some ⟨b,0,none⟩),.int .i64 3] w (NumS b w A n c l (gate o k (numF l 3))):=by
 have KT:=takeC_f (b:=b) (A:=A) (n:=n) (c:=c) (W:=⟨#[45]⟩) (by decide) hi;have KK:=kindC b A n c l 2 k o (by decide) rfl;have H:=Lib.hid (Cx.start h)
 have eR:gate o k (numF l 3)=(gate o k (kindF l 2)).then fun t j=> .ok t.n j:=by
  by_cases ho:o=0
  ·subst ho
   rw[gate_ok,gate_ok];unfold numF;rw[if_neg (fun e=>by rw[←isO_zero,hi] at e;exact absurd e.2 (by decide)),if_neg (fun e=>absurd e.1 (by decide))]
  ·unfold gate;rw[if_neg ho,if_neg ho];rfl
 rw[eR];generalize gate o k (kindF l 2)=R at KK ⊢;clear eR h hi;have tf:=tokF2;go_enter Tryz.func57,Tryz.ntmps57;go_wp2_with (first | (go_at_call 61;go_must (((with_reducible refine(KT.out _ H.out.rd).mono ?_));rintro e w1 ⟨rfl,hs1⟩;have HC:=Lib.hid (H.out.call hs1);clear hs1)) | (go_at_call 58;go_must (((with_reducible refine(KK.out _ HC.out.rd).mono ?_));rintro e w2 ⟨t,A2,c2,rfl,hs2,hr2,hv2⟩;have HD:=Lib.hid (HC.out.call hs2);have HV:=Lib.hid hv2;clear hs2 hr2 hv2)));go_ret;exact sneed_num HD.out.step HV.out
theorem snum_never (b:Nat) (w:World) (A:Option Addr) (n c:Nat) (l:List Tok) (k:Nat) (h:RdS b w A n c l k 0) (hi:isO l 1 [110,101,118,101,114] k 0=true):
  Calls Tryz.prog 57 #[.pointer (some ⟨b,0,none⟩),.int .i64 11] w (NumS b w A n c l (gate 0 k (numF l 11))):=by
 have KT:=takeC_t (b:=b) (A:=A) (n:=n) (c:=c) (W:=⟨#[110,101,118,101,114]⟩) (by decide) hi;have H:=Lib.hid (Cx.start h)
 have eR:gate 0 k (numF l 11)= .ok (-1) (k+1):=by
  rw[gate_ok];unfold numF;rw[if_neg (fun e=>absurd e.1 (by decide)),if_pos ⟨rfl,hi⟩]
 rw[eR];clear eR h hi;go_enter Tryz.func57,Tryz.ntmps57;go_wp2_with (first | (go_at_call 61;go_must (((with_reducible refine(KT.out _ H.out.rd).mono ?_));rintro e w1 ⟨rfl,hs1⟩;have HC:=Lib.hid (H.out.call hs1);clear hs1)));go_ret;exact⟨-1,rfl,HC.out.step,fun y j e=>by injection e with e;exact e.symm⟩
theorem snum_pos11 (b:Nat) (w:World) (A:Option Addr) (n c:Nat) (l:List Tok) (k o:Nat) (h:RdS b w A n c l k o) (hi:isO l 1 [110,101,118,101,114] k o=false):
  Calls Tryz.prog 57 #[.pointer (some ⟨b,0,none⟩),.int .i64 11] w (NumS b w A n c l (gate o k (numF l 11))):=by
 have KT:=takeC_f (b:=b) (A:=A) (n:=n) (c:=c) (W:=⟨#[110,101,118,101,114]⟩) (by decide) hi;have KK:=kindC b A n c l 2 k o (by decide) rfl;have H:=Lib.hid (Cx.start h)
 have eR:gate o k (numF l 11)=(gate o k (kindF l 2)).then fun t j=> .ok t.n j:=by
  by_cases ho:o=0
  ·subst ho
   rw[gate_ok,gate_ok];unfold numF;rw[if_neg (fun e=>absurd e.1 (by decide)),if_neg (fun e=>by rw[←isO_zero,hi] at e;exact absurd e.2 (by decide))]
  ·unfold gate;rw[if_neg ho,if_neg ho];rfl
 rw[eR];generalize gate o k (kindF l 2)=R at KK ⊢;clear eR h hi;have tf:=tokF2;go_enter Tryz.func57,Tryz.ntmps57;go_wp2_with (first | (go_at_call 61;go_must (((with_reducible refine(KT.out _ H.out.rd).mono ?_));rintro e w1 ⟨rfl,hs1⟩;have HC:=Lib.hid (H.out.call hs1);clear hs1)) | (go_at_call 58;go_must (((with_reducible refine(KK.out _ HC.out.rd).mono ?_));rintro e w2 ⟨t,A2,c2,rfl,hs2,hr2,hv2⟩;have HD:=Lib.hid (HC.out.call hs2);have HV:=Lib.hid hv2;clear hs2 hr2 hv2)));go_ret;exact sneed_num HD.out.step HV.out
theorem snum_plain (kind:Int) (hk:kind=8∨kind=9) (b:Nat) (w:World) (A:Option Addr) (n c:Nat) (l:List Tok) (k o:Nat) (h:RdS b w A n c l k o):
  Calls Tryz.prog 57 #[.pointer (some ⟨b,0,none⟩),.int .i64 kind] w (NumS b w A n c l (gate o k (numF l kind))):=by
 have KK:=kindC b A n c l 2 k o (by decide) rfl;have H:=Lib.hid (Cx.start h)
 have eR:gate o k (numF l kind)=(gate o k (kindF l 2)).then fun t j=> .ok t.n j:=by
  by_cases ho:o=0
  ·subst ho
   rw[gate_ok,gate_ok];unfold numF;rw[if_neg (fun e=>by omega),if_neg (fun e=>by omega)]
  ·unfold gate;rw[if_neg ho,if_neg ho];rfl
 rw[eR];generalize gate o k (kindF l 2)=R at KK ⊢;clear eR h;have tf:=tokF2;have b3:(kind==3)=false:=by simp;omega
 have b11:(kind==11)=false:=by simp;omega
 clear hk;go_enter Tryz.func57,Tryz.ntmps57;go_wp2_with (first | (go_at_call 58;go_must (((with_reducible refine(KK.out _ H.out.rd).mono ?_));rintro e w2 ⟨t,A2,c2,rfl,hs2,hr2,hv2⟩;have HD:=Lib.hid (H.out.call hs2);have HV:=Lib.hid hv2;clear hs2 hr2 hv2)));go_ret;exact sneed_num HD.out.step HV.out
theorem snum_any (kind:Int) (hk:kind=3∨kind=8∨kind=9∨kind=11) (b:Nat) (w:World) (A:Option Addr) (n c:Nat) (l:List Tok) (k o:Nat) (h:RdS b w A n c l k o):
  Calls Tryz.prog 57 #[.pointer (some ⟨b,0,none⟩),.int .i64 kind] w (NumS b w A n c l (gate o k (numF l kind))):=by
 rcases hk with rfl | hk | hk | rfl
 ·cases hi:isO l 4 [45] k o with
  | true=>
    obtain⟨rfl,_⟩:=isO_lt (by decide) hi;exact snum_neg b w A n c l k h hi
  | false=>exact snum_pos3 b w A n c l k o h hi
 ·exact snum_plain kind (.inl hk) b w A n c l k o h
 ·exact snum_plain kind (.inr hk) b w A n c l k o h
 ·cases hi:isO l 1 [110,101,118,101,114] k o with
  | true=>
    obtain⟨rfl,_⟩:=isO_lt (by decide) hi;exact snum_never b w A n c l k h hi
  | false=>exact snum_pos11 b w A n c l k o h hi
end
theorem qplain_any (A:Option Addr) (n c:Nat) (ps:List Pt) (w:World) (h:Rd w.heap.size w A n ps) (hm:may false ps=true) (hn:n≤1000000) (ht:∀ p∈ps,p.2.length≤1000000):
  Calls Tryz.prog 179 #[.slice A n c] w fun e w'=>e= .returned (.tuple #[.string ⟨((plainP ps).getD []).toArray⟩,.bool (plainP ps).isSome])∧Below w.heap.size w w':=by
 have hl:=h.1
 match ps,h,hm,ht,hl with
 | [],h,hm,ht,hl=>
   subst hl;exact plain_zero A c w
 | [p],h,hm,ht,hl=>
   subst hl;by_cases hp:p.1=[]
   ·have hp2:¬ p.2=[]:=fun e=>by
     obtain⟨p1,p2⟩:=p;dsimp only at hp e;subst hp;subst e;exact absurd hm (by decide)
    have e:plainP [p]=some p.2:=by unfold plainP;exact if_pos hp
    rw[e];have:=plain_text A c p ⟨p.2.toArray⟩ rfl w h hp hp2 (by have:=ht p (by simp);simpa[ByteArray.size] using this);exact this
   ·have e:plainP [p]=none:=by unfold plainP;exact if_neg hp
    rw[e];exact plain_var A c p w h hp
 | p::q::r,h,hm,ht,hl=>
   exact plain_many A n c (by rw[hl];simp) hn w
theorem nxo_ok {l:List Tok} (hf:FitL l) (k o:Nat):((nxo l k o).kind=3∨(nxo l k o).parts=[])∧may false (nxo l k o).parts=true∧(nxo l k o).parts.length≤100000∧∀ p∈(nxo l k o).parts,p.2.length≤100000:=by
 have hz:(tokZ.kind=3∨tokZ.parts=[])∧may false tokZ.parts=true∧tokZ.parts.length≤100000∧∀ p∈tokZ.parts,p.2.length≤100000:=⟨.inr rfl,rfl,by decide,by simp[tokZ]⟩;unfold nxo
 split
 ·by_cases c:k<l.length
  ·rw[nxz_at (List.getElem?_eq_getElem c)]
   have ho:=hf.ok _ (List.getElem_mem c);have hft:=hf.fit _ (List.getElem_mem c);generalize l[k]=t at ho hft;refine⟨?_,?_,hft.parts,hft.texts⟩
   ·unfold okT at ho
    split at ho
    ·simp at ho;exact .inr ho.2
    ·split at ho
     ·rename_i h3;exact .inl h3
     ·simp at ho;exact .inr ho.2
   ·unfold okT at ho
    split at ho
    ·simp at ho;rw[ho.2];rfl
    ·split at ho
     ·simp at ho;exact ho.2
     ·simp at ho;rw[ho.2];rfl
  ·rw[nxz_end c];exact hz
 ·exact hz
abbrev NextC (b:Nat) (A:Option Addr) (n c:Nat) (l:List Tok) (k o:Nat) (t:Tok):Prop:=Hid (∀ w',RdS b w' A n c l k o→Calls Tryz.prog 31 #[.pointer (some ⟨b,0,none⟩)] w' fun e w2=>
 ∃ A' c',e= .returned (.agg #[.int .i64 t.kind,.string ⟨t.word.toArray⟩,.int .i64 t.n,.slice A' t.parts.length c',.int .i64 t.pl])∧Below w'.heap.size w' w2∧Rd b w' A' t.parts.length t.parts)
theorem nextC (b:Nat) (A:Option Addr) (n c:Nat) (l:List Tok) (k o:Nat):NextC b A n c l k o (nxo l k o):=Lib.hid fun w' h'=>snext_any b w' A n c l k o h'
abbrev RefC (b:Nat) (A:Option Addr) (n c:Nat) (l:List Tok) (z:Int) (k o o2:Nat):Prop:=Hid (∀ w',RdS b w' A n c l k o→Calls Tryz.prog 17 #[.pointer (some ⟨b,0,none⟩),.int .i64 z] w' fun e w2=>e= .returned (.tuple #[])∧StepS b w' A n c l k o2 w2)
theorem refC1 (b:Nat) (A:Option Addr) (n c:Nat) (l:List Tok) (k o:Nat) {o2:Nat} (h:(if o=0 then 1 else o)=o2):RefC b A n c l 1 k o o2:=Lib.hid fun w' h'=>by
 subst h;exact(srefuse_any 1 (.inl rfl) b w' A n c l k o h').mono fun e w2 h=>⟨h.1,h.2.2,h.2.1⟩
theorem refC8 (b:Nat) (A:Option Addr) (n c:Nat) (l:List Tok) (k o:Nat) {o2:Nat} (h:(if o=0 then 8 else o)=o2):RefC b A n c l 8 k o o2:=Lib.hid fun w' h'=>by
 subst h;exact(srefuse_any 8 (.inr rfl) b w' A n c l k o h').mono fun e w2 h=>⟨h.1,h.2.2,h.2.1⟩
theorem splain_any (b:Nat) (w:World) (A:Option Addr) (n c:Nat) (l:List Tok) (k o:Nat) (h:RdS b w A n c l k o):
  Calls Tryz.prog 157 #[.pointer (some ⟨b,0,none⟩)] w (NameS b w A n c l (gate o k (plainF l))):=by
 have K:=nextC b A n c l k o;have H:=Lib.hid (Cx.start h);obtain⟨t1,t2,t3,t4⟩:=nxo_ok h.fit k o;have hbl:=h.lt
 have KP:Hid (∀ w' A1 c1,b≤w'.heap.size→Rd b w' A1 (nxo l k o).parts.length (nxo l k o).parts→Calls Tryz.prog 179 #[.slice A1 (nxo l k o).parts.length c1] w' fun e w2=>e= .returned (.tuple #[.string ⟨((plainP (nxo l k o).parts).getD []).toArray⟩,.bool (plainP (nxo l k o).parts).isSome])∧Below w'.heap.size w' w2):=Lib.hid fun w' A1 c1 hb hr=>
  qplain_any A1 _ c1 _ w' (hr.up hb) t2 (by omega) (fun p hp=>Nat.le_trans (t4 p hp) (by omega))
 have tf:=tokF3
 cases hp:plainP (nxo l k o).parts with
 | some s=>
   have eR:gate o k (plainF l)=(gate o k (kindF l 3)).then fun _ j=> .ok s j:=by
    by_cases ho:o=0
    ·subst ho
     have hp':plainP (nxz l k).parts=some s:=hp;rw[gate_ok,gate_ok];unfold plainF kindF;by_cases c:(nxz l k).kind=3
     ·rw[if_pos c,if_pos c,hp'];rfl
     ·rw[if_neg c,if_neg c];rfl
    ·unfold gate;rw[if_neg ho,if_neg ho];rfl
   rw[eR];rw[hp] at KP;have KK:=kindC b A n c l 3 k o (by decide) rfl;unfold NameS;have hm:=then_map (gate o k (kindF l 3)) (fun _=>s);rw[hm.1,hm.2.1]
   suffices hs:Calls Tryz.prog 157 #[.pointer (some ⟨b,0,none⟩)] w fun e w'=>e= .returned (.string ⟨s.toArray⟩)∧StepS b w A n c l (gate o k (kindF l 3)).at (gate o k (kindF l 3)).err w' from
    hs.mono fun e w' ⟨h1,h2⟩=>⟨s,h1,h2,fun y j hy=>by obtain⟨_,_,_,h2⟩:=Rz.then_ok hy;injection h2 with h2;exact h2.symm⟩
   generalize gate o k (kindF l 3)=R at KK ⊢;generalize nxo l k o=t at K KP;dsimp only[Option.getD,Option.isSome] at KP;clear hm eR hp t1 t2 t3 t4 h;go_enter Tryz.func157,Tryz.ntmps157;go_wp2_with (first | (go_at_call 31;go_must (((with_reducible refine(K.out _ H.out.rd).mono ?_));rintro e w1 ⟨A1,c1,rfl,hb1,hr1⟩;have HC:=Lib.hid (H.out.below hb1);have HR:=Lib.hid (hr1.keep (hb1.mono (Nat.le_of_lt hbl)));clear hb1 hr1)) | (go_at_call 179;go_must (((with_reducible refine(KP.out _ _ _ (Nat.le_of_lt HC.out.rd.lt) HR.out).mono ?_));rintro e w2 ⟨rfl,hb2⟩;have HD:=Lib.hid (HC.out.below hb2);clear hb2)) | (go_at_call 58;go_must (((with_reducible refine(KK.out _ HD.out.rd).mono ?_));rintro e w3 ⟨t3,A2,c2,rfl,hs2,hr2,hv2⟩;have HE:=Lib.hid (HD.out.call hs2);clear hs2 hr2 hv2)));go_ret;exact⟨rfl,HE.out.step⟩
 | none=>
   have ho:o=0:=by
    by_cases ho:o=0
    ·exact ho
    ·unfold nxo at hp;rw[if_neg ho] at hp;cases hp
   subst ho
   have eR:gate 0 k (plainF l)= .bad k false:=by
    have hp':plainP (nxz l k).parts=none:=hp;rw[gate_ok];unfold plainF;rw[hp']
    split <;> rfl
   rw[eR];rw[hp] at KP;have KR:=refC1 b A n c l k 0 rfl;have KK:=kindC b A n c l 3 k 1 (by decide) rfl;generalize nxo l k 0=t at K KP;dsimp only[Option.getD,Option.isSome] at KP;clear eR hp t1 t2 t3 t4 h;go_enter Tryz.func157,Tryz.ntmps157;go_wp2_with (first | (go_at_call 31;go_must (((with_reducible refine(K.out _ H.out.rd).mono ?_));rintro e w1 ⟨A1,c1,rfl,hb1,hr1⟩;have HC:=Lib.hid (H.out.below hb1);have HR:=Lib.hid (hr1.keep (hb1.mono (Nat.le_of_lt hbl)));clear hb1 hr1)) | (go_at_call 179;go_must (((with_reducible refine(KP.out _ _ _ (Nat.le_of_lt HC.out.rd.lt) HR.out).mono ?_));rintro e w2 ⟨rfl,hb2⟩;have HD:=Lib.hid (HC.out.below hb2);clear hb2)) | (go_at_call 17;go_must (((with_reducible refine(KR.out _ HD.out.rd).mono ?_));rintro e w4 ⟨rfl,hs4⟩;have HF:=Lib.hid (HD.out.call hs4);clear hs4)) | (go_at_call 58;go_must (((with_reducible refine(KK.out _ HF.out.rd).mono ?_));rintro e w3 ⟨t3,A2,c2,rfl,hs2,hr2,hv2⟩;have HE:=Lib.hid (HF.out.call hs2);clear hs2 hr2 hv2)));go_ret;exact⟨[],rfl,HE.out.step,fun y j e=>by cases e⟩
def flagB:Nat→Bs | 0=>[101,120] | 1=>[103,108] | 2=>[114,101] | _=>[]
theorem sflag_any (j:Nat) (hj:j<3) (w:World):Calls Tryz.prog 138 #[.int .i64 j] w fun e w'=>e= .returned (.string ⟨(flagB j).toArray⟩)∧w=w':=by
 have h:j=0∨j=1∨j=2:=by omega
 rcases h with rfl | rfl | rfl
 all_goals
  go_enter Tryz.func138,Tryz.ntmps138;go_wp2;go_ret;exact⟨rfl,rfl⟩
def rwB:Nat→Bs | 2=>[116,105,109,101,111,117,116] | 3=>[101,111,102] | _=>[100,101,102,97,117,108,116]
theorem sword_any (j:Nat) (hj:2≤j∧j≤4) (w:World):Calls Tryz.prog 144 #[.int .i64 j] w fun e w'=>e= .returned (.string ⟨(rwB j).toArray⟩)∧w=w':=by
 have h:j=2∨j=3∨j=4:=by omega
 rcases h with rfl | rfl | rfl
 all_goals
  go_enter Tryz.func144,Tryz.ntmps144;go_wp2;go_ret;exact⟨rfl,rfl⟩
def formB:Nat→Int | 1=>5 | 2=>9 | 3=>3 | 4=>56 | 5=>24 | 6=>17 | 7=>1 | 8=>2 | 9=>2 | 10=>4 | 11=>2 | 12=>64 | 13=>64 | 14=>64 | _=>0
theorem sform_any (j:Nat) (hj:1≤j∧j≤16) (w:World):Calls Tryz.prog 55 #[.int .i64 j] w fun e w'=>e= .returned (.tuple #[.string ⟨(wordsC.getD (j - 1) []).toArray⟩,.int .i64 (formB j)])∧w=w':=by
 have h:j=1∨j=2∨j=3∨j=4∨j=5∨j=6∨j=7∨j=8∨j=9∨j=10∨j=11∨j=12∨j=13∨j=14∨j=15∨j=16:=by omega
 rcases h with rfl | rfl | rfl | rfl | rfl | rfl | rfl | rfl | rfl | rfl | rfl | rfl | rfl | rfl | rfl | rfl
 all_goals
  go_enter Tryz.func55,Tryz.ntmps55;go_wp2
  go_ret2
  exact⟨rfl,rfl⟩
theorem kindW_first {w:Bs} {j:Nat} (hj:1≤j∧j≤16) (h:wordsC.getD (j - 1) []=w):kindW w=j:=by
 have e:j=1∨j=2∨j=3∨j=4∨j=5∨j=6∨j=7∨j=8∨j=9∨j=10∨j=11∨j=12∨j=13∨j=14∨j=15∨j=16:=by omega
 rcases e with rfl | rfl | rfl | rfl | rfl | rfl | rfl | rfl | rfl | rfl | rfl | rfl | rfl | rfl | rfl | rfl <;> (subst h;decide)
theorem kindW_none {w:Bs} (h:∀ j,1≤j→j≤16→wordsC.getD (j - 1) []≠w):kindW w=0:=by
 unfold kindW;rw[if_neg];intro hm;obtain⟨i,hi,e⟩:=List.getElem_of_mem hm;have:wordsC.length=16:=rfl;refine h (i+1) (by omega) (by omega) ?_;rw[Nat.add_sub_cancel,List.getD_eq_getElem?_getD,List.getElem?_eq_getElem hi];exact e
theorem skind_any (W:ByteArray) (w:World):Calls Tryz.prog 54 #[.string W] w fun e w'=>e= .returned (.int .i64 (kindW W.data.toList))∧w=w':=by
 obtain⟨v,hv⟩:∃ v,v=kindW W.data.toList:=⟨_,rfl⟩;rw[←hv];have HV:=Lib.hid hv;clear hv;go_enter Tryz.func54,Tryz.ntmps54;go_wp2
 go_loop [3,4,5] (fun i _ _=>∃ j:Nat,i= .int .i64 j∧1≤j∧j≤17∧∀ m,1≤m→m<j→wordsC.getD (m - 1) []≠W.data.toList) (fun i _ _=>17 - (intOf i).toNat)
 case atStart=>exact⟨1,rfl,by omega,by omega,fun m h1 h2=>by omega⟩
 case round=>
  obtain⟨j,rfl,h1,h2,h3⟩:=hrel;have H3:=Lib.hid h3;clear h3;by_cases a:j≤16
  ·have K:Hid (∀ w',Calls Tryz.prog 55 #[.int .i64 j] w' fun e w2=>e= .returned (.tuple #[.string ⟨(wordsC.getD (j - 1) []).toArray⟩,.int .i64 (formB j)])∧w'=w2):=Lib.hid fun w'=>sform_any j ⟨h1,a⟩ w'
   obtain⟨S,hS⟩:∃ S:ByteArray,S=⟨(wordsC.getD (j - 1) []).toArray⟩:=⟨_,rfl⟩;rw[←hS] at K;generalize formB j=f at K;by_cases e:S=W
   ·have HX:Hid (v=j):=Lib.hid (by rw[HV.out];exact kindW_first ⟨h1,a⟩ ((bytes_eq hS).2 e))
    subst e;clear hS;go_wp2_with (go_at_call 55;go_must (((with_reducible refine(K.out _).mono ?_));rintro e w1 ⟨rfl,rfl⟩));go_ret;exact⟨by rw[HX.out];rfl,rfl⟩
   ·have HX:Hid (∀ m,1≤m→m<j+1→wordsC.getD (m - 1) []≠W.data.toList):=Lib.hid fun m hm1 hm2=>by
     by_cases c:m<j
     ·exact H3.out m hm1 c
     ·have:m=j:=by omega
      subst this;exact fun e2=>e ((bytes_eq hS).1 e2)
    have b2:(S.toList==W.toList)=false:=toList_ne e;clear hS e;go_wp2_with (go_at_call 55;go_must (((with_reducible refine(K.out _).mono ?_));rintro e w1 ⟨rfl,rfl⟩))
    go_round
    case rel=>exact⟨j+1,by go_num,by omega,by omega,HX.out⟩
    case measure=>simp[intOf];omega
  ·have HX:Hid (v=0):=Lib.hid (by rw[HV.out];exact kindW_none fun m hm1 hm2=>H3.out m hm1 (by omega))
   go_wp2;go_ret;exact⟨by rw[HX.out];rfl,rfl⟩
theorem gate_none {α:Type} {o k:Nat} {F:Nat→Rz α} (ho:o=0∨o=1∨o=8) (h:o=0→F k= .bad k false):(gate o k F).at=k∧(gate o k F).err=(if o=0 then 1 else o)∧∀ y j,gate o k F≠ .ok y j:=by
 rcases ho with rfl | ho
 ·rw[gate_ok,h rfl]
  exact⟨rfl,rfl,fun _ _ e=>by cases e⟩
 ·rw[if_neg (by omega)];exact⟨(gate_err ho).2,(gate_err ho).1,fun _ _=>gate_bad (by omega)⟩
theorem patF_at {l:List Tok} {k j:Nat} (hj:j<3) (h:∀ m,m<j→isO l 5 (flagB m) k 0=false) (ht:isO l 5 (flagB j) k 0=true):patF l k=(plainF l (k+1)).then fun s i=> .ok ((j:Int),s) i:=by
 unfold patF;have e:j=0∨j=1∨j=2:=by omega
 rcases e with rfl | rfl | rfl
 ·rw[if_pos (show isT l 5 [101,120] k=true from ht)];rfl
 ·rw[if_neg (by rw[show isT l 5 [101,120] k=false from h 0 (by omega)];decide),if_pos (show isT l 5 [103,108] k=true from ht)];rfl
 ·rw[if_neg (by rw[show isT l 5 [101,120] k=false from h 0 (by omega)];decide),if_neg (by rw[show isT l 5 [103,108] k=false from h 1 (by omega)];decide),if_pos (show isT l 5 [114,101] k=true from ht)];rfl
theorem patF_none {l:List Tok} {k:Nat} (h:∀ m,m<3→isO l 5 (flagB m) k 0=false):patF l k= .bad k false:=by
 unfold patF;rw[if_neg (by rw[show isT l 5 [101,120] k=false from h 0 (by omega)];decide),if_neg (by rw[show isT l 5 [103,108] k=false from h 1 (by omega)];decide),if_neg (by rw[show isT l 5 [114,101] k=false from h 2 (by omega)];decide)]
abbrev PlainC (b:Nat) (A:Option Addr) (n c:Nat) (l:List Tok) (k o:Nat) (R:Rz Bs):Prop:=Hid (∀ w',RdS b w' A n c l k o→Calls Tryz.prog 157 #[.pointer (some ⟨b,0,none⟩)] w' fun e w2=>
 ∃ s:Bs,e= .returned (.string ⟨s.toArray⟩)∧StepS b w' A n c l R.at R.err w2∧∀ y j,R= .ok y j→y=s)
def PatS (b:Nat) (w:World) (A:Option Addr) (n c:Nat) (l:List Tok) (R:Rz (Int × Bs)) (e:Ending) (w':World):Prop:=
 ∃ (z:Int) (s:Bs),e= .returned (.agg #[.int .i64 z,.string ⟨s.toArray⟩])∧StepS b w A n c l R.at R.err w'∧∀ y j,R= .ok y j→y=(z,s)
abbrev zeroP:List Value:=[.int .i64 0,.string ⟨#[]⟩]
theorem Cx.put2 {b:Nat} {w W:World} {A:Option Addr} {n c:Nat} {l:List Tok} {k o:Nat} {bs:List (Nat × List Value)} (h:Cx b w W A n c l k o bs) (i q:Nat) (u0 u1:Value) (hi:bs[i]?=some (q,[u0,u1])) (v0 v1:Value):Cx b w ((W.setCell ⟨q,0,none⟩ v0).setCell ⟨q,1,none⟩ v1) A n c l k o (bs.set i (q,[v0,v1])):=by
 have hl:=(List.getElem?_eq_some_iff.1 hi).1;have e:∀ x:Nat × List Value,(bs.set i x)[i]?=some x:=fun x=>List.getElem?_set_self hl
 have h0:=h.put i q _ hi 0 (by simp) v0;have h1:=h0.put i q _ (e _) 1 (by simp) v1;rw[List.set_set] at h1;exact h1
theorem spat_any (b:Nat) (w:World) (A:Option Addr) (n c:Nat) (l:List Tok) (k o:Nat) (h:RdS b w A n c l k o):
  Calls Tryz.prog 132 #[.pointer (some ⟨b,0,none⟩)] w (PatS b w A n c l (gate o k (patF l))):=by
 have H:=Lib.hid (Cx.start h);have hoks:=h.oks;have HFit:=Lib.hid h.fit;obtain⟨R,hR⟩:∃ R,R=gate o k (patF l):=⟨_,rfl⟩;rw[←hR];have HR:=Lib.hid hR;have HO:=Lib.hid hoks;clear hR h hoks;unfold PatS;go_enter Tryz.func132,Tryz.ntmps132;go_wp2
 go_loopw [3] (fun i wr=>∃ j:Nat,i= .int .i64 j∧j≤3∧(∀ m,m<j→isO l 5 (flagB m) k o=false)∧Cx b w wr A n c l k o [(w.heap.size,zeroP)]) (fun i _=>3 - (intOf i).toNat)
 case atStart=>exact⟨0,rfl,by omega,fun m h=>by omega,H.out.alloc 63 zeroP (by simp)⟩
 case round=>
  obtain⟨j,rfl,h2,h3,hc⟩:=hrel;have H3:=Lib.hid h3;have HC:=Lib.hid hc;clear h3 hc;by_cases a:j<3
  ·have a':(j:Int)≤2:=by omega
   have KF:Hid (∀ w',Calls Tryz.prog 138 #[.int .i64 j] w' fun e w2=>e= .returned (.string ⟨(flagB j).toArray⟩)∧w'=w2):=Lib.hid fun w'=>sflag_any j a w'
   have hfl:(⟨(flagB j).toArray⟩:ByteArray).data.toList=flagB j:=rfl
   cases hv:isO l 5 (flagB j) k o with
   | true=>
     have hkl:=(isO_lt (by decide) hv);obtain⟨ho,hkt⟩:=hkl;subst ho;have KT:=takeC_t (b:=b) (A:=A) (n:=n) (c:=c) (W:=⟨(flagB j).toArray⟩) (by decide) hv;have KP:PlainC b A n c l (k+1) 0 (plainF l (k+1)):=Lib.hid fun w' h'=>splain_any b w' A n c l (k+1) 0 h'
     have HX:Hid (R=(plainF l (k+1)).then fun s i=> .ok ((j:Int),s) i):=Lib.hid (by rw[HR.out,gate_ok,patF_at a H3.out hv]);generalize plainF l (k+1)=R1 at KP HX;generalize (⟨(flagB j).toArray⟩:ByteArray)=S at KF KT;clear hv hfl hkt;go_wp2_with (first | (go_at_call 138;go_must (((with_reducible refine(KF.out _).mono ?_));rintro e w1 ⟨rfl,rfl⟩)) | (go_at_call 61;go_must (((with_reducible refine(KT.out _ HC.out.rd).mono ?_));rintro e w1 ⟨rfl,hs1⟩;have HD:=Lib.hid (HC.out.call hs1);clear hs1)) | (go_at_call 157;go_must (((with_reducible refine(KP.out _ HD.out.rd).mono ?_));rintro e w2 ⟨s,rfl,hs2,hv2⟩;have HE:=Lib.hid (HD.out.call hs2);have HV:=Lib.hid hv2;obtain⟨q0,q1,q2⟩:=HE.out.one;obtain⟨g0,g1⟩:=(HE.out.box 0 w.heap.size zeroP rfl).all2;obtain⟨j0,j1⟩:=(HE.out.box 0 w.heap.size zeroP rfl).fre2;clear hs2 hv2)));have HG:=HE.out.put2 0 w.heap.size _ _ rfl (.int .i64 j) (.string ⟨s.toArray⟩);obtain⟨r0,r1⟩:=(HG.box 0 w.heap.size _ rfl).all2;refine bodyPost_ret (v:= .agg #[.int .i64 j,.string ⟨s.toArray⟩]) (by simp[results,Tryz.results132,go_sem,r0,r1]) rfl ⟨j,s,rfl,?_⟩;have hm:=then_map R1 (fun s=>((j:Int),s));rw[HX.out,hm.1,hm.2.1];exact⟨HG.step,hm.2.2 s HV.out⟩
   | false=>
     have KT:=takeC_f (b:=b) (A:=A) (n:=n) (c:=c) (W:=⟨(flagB j).toArray⟩) (by decide) hv
     have HX:Hid (∀ m,m<j+1→isO l 5 (flagB m) k o=false):=Lib.hid fun m hm=>by
      by_cases c:m<j
      ·exact H3.out m c
      ·have:m=j:=by omega
       subst this;exact hv
     generalize (⟨(flagB j).toArray⟩:ByteArray)=S at KF KT;clear hv hfl;go_wp2_with (first | (go_at_call 138;go_must (((with_reducible refine(KF.out _).mono ?_));rintro e w1 ⟨rfl,rfl⟩)) | (go_at_call 61;go_must (((with_reducible refine(KT.out _ HC.out.rd).mono ?_));rintro e w1 ⟨rfl,hs1⟩;have HD:=Lib.hid (HC.out.call hs1);clear hs1)))
     go_roundw
     case rel=>exact⟨j+1,by go_num,by omega,HX.out,HD.out⟩
     case measure=>simp[intOf];omega
  ·have h3:∀ m,m<3→isO l 5 (flagB m) k o=false:=fun m hm=>H3.out m (by omega)
   have HX:Hid (R.at=k∧R.err=(if o=0 then 1 else o)∧∀ y j,R≠ .ok y j):=Lib.hid (by rw[HR.out];exact gate_none HO.out fun e=>by subst e;exact patF_none h3);have KR:=refC1 b A n c l k o rfl;generalize (if o=0 then 1 else o)=o2 at KR HX;clear h3;go_wp2_with (first | (go_at_call 17;go_must (((with_reducible refine(KR.out _ HC.out.rd).mono ?_));rintro e w2 ⟨rfl,hs2⟩;have HE:=Lib.hid (HC.out.call hs2);obtain⟨q0,q1,q2⟩:=HE.out.one;obtain⟨g0,g1⟩:=(HE.out.box 0 w.heap.size zeroP rfl).all2;obtain⟨j0,j1⟩:=(HE.out.box 0 w.heap.size zeroP rfl).fre2;clear hs2)));have HG:=HE.out.put2 0 w.heap.size _ _ rfl (.int .i64 0) (.string ⟨#[]⟩);obtain⟨r0,r1⟩:=(HG.box 0 w.heap.size _ rfl).all2;refine bodyPost_ret (v:= .agg #[.int .i64 0,.string ⟨#[]⟩]) (by simp[results,Tryz.results132,go_sem,r0,r1]) rfl ⟨0,[],rfl,?_⟩;rw[HX.out.1,HX.out.2.1];exact⟨HG.step,fun y j e=>absurd e (HX.out.2.2 y j)⟩
theorem rwordF_at {l:List Tok} {told:Bool} {k j:Nat} (hj:2≤j∧j≤4) (h:∀ m,2≤m→m<j→(m=3∨told=false)→isO l 1 (rwB m) k 0=false) (hg:j=3∨told=false) (ht:isO l 1 (rwB j) k 0=true):rwordF l told k= .ok (j:Int) (k+1):=by
 unfold rwordF;have e:j=2∨j=3∨j=4:=by omega
 rcases e with rfl | rfl | rfl
 ·rw[if_pos ⟨hg.resolve_left (by decide),ht⟩];rfl
 ·rw[if_neg (fun e=>by have:=h 2 (by omega) (by omega) (.inr e.1);rw[show isT l 1 [116,105,109,101,111,117,116] k=false from this] at e;exact absurd e.2 (by decide)),if_pos (show isT l 1 [101,111,102] k=true from ht)];rfl
 ·have hg:=hg.resolve_left (by decide)
  rw[if_neg (fun e=>by have:=h 2 (by omega) (by omega) (.inr e.1);rw[show isT l 1 [116,105,109,101,111,117,116] k=false from this] at e;exact absurd e.2 (by decide)),if_neg (fun e=>by have:=h 3 (by omega) (by omega) (.inl rfl);rw[show isT l 1 [101,111,102] k=false from this] at e;cases e),if_pos ⟨hg,ht⟩];rfl
theorem rwordF_none {l:List Tok} {told:Bool} {k:Nat} (h:∀ m,2≤m→m<5→(m=3∨told=false)→isO l 1 (rwB m) k 0=false):rwordF l told k= .bad k false:=by
 unfold rwordF;rw[if_neg (fun e=>by have:=h 2 (by omega) (by omega) (.inr e.1);rw[show isT l 1 [116,105,109,101,111,117,116] k=false from this] at e;exact absurd e.2 (by decide)),if_neg (fun e=>by have:=h 3 (by omega) (by omega) (.inl rfl);rw[show isT l 1 [101,111,102] k=false from this] at e;cases e),if_neg (fun e=>by have:=h 4 (by omega) (by omega) (.inr e.1);rw[show isT l 1 [100,101,102,97,117,108,116] k=false from this] at e;exact absurd e.2 (by decide))]
theorem srword_any (told:Bool) (b:Nat) (w:World) (A:Option Addr) (n c:Nat) (l:List Tok) (k o:Nat) (h:RdS b w A n c l k o):
  Calls Tryz.prog 133 #[.pointer (some ⟨b,0,none⟩),.bool told] w (NumS b w A n c l (gate o k (rwordF l told))):=by
 have H:=Lib.hid (Cx.start h);obtain⟨R,hR⟩:∃ R,R=gate o k (rwordF l told):=⟨_,rfl⟩;rw[←hR];have HR:=Lib.hid hR;have HO:=Lib.hid h.oks;clear hR h;unfold NumS;go_enter Tryz.func133,Tryz.ntmps133;go_wp2
 go_loopw [5] (fun i wr=>∃ j:Nat,i= .int .i64 j∧2≤j∧j≤5∧(∀ m,2≤m→m<j→(m=3∨told=false)→isO l 1 (rwB m) k o=false)∧Cx b w wr A n c l k o []) (fun i _=>5 - (intOf i).toNat)
 case atStart=>exact⟨2,rfl,by omega,by omega,fun m h1 h2=>by omega,H.out⟩
 case round=>
  obtain⟨j,rfl,h1,h2,h3,hc⟩:=hrel;have H3:=Lib.hid h3;have HC:=Lib.hid hc;clear h3 hc;by_cases a:j≤4
  ·have a':(j:Int)≤4:=by omega
   have KF:Hid (∀ w',Calls Tryz.prog 144 #[.int .i64 j] w' fun e w2=>e= .returned (.string ⟨(rwB j).toArray⟩)∧w'=w2):=Lib.hid fun w'=>sword_any j ⟨h1,a⟩ w'
   by_cases hg:j=3∨told=false
   ·cases hv:isO l 1 (rwB j) k o with
    | true=>
      obtain⟨ho,hkt⟩:=isO_lt (by decide) hv;subst ho;have KT:=takeC_t (b:=b) (A:=A) (n:=n) (c:=c) (W:=⟨(rwB j).toArray⟩) (by decide) hv;have HX:Hid (R= .ok (j:Int) (k+1)):=Lib.hid (by rw[HR.out,gate_ok,rwordF_at ⟨h1,a⟩ H3.out hg hv]);generalize (⟨(rwB j).toArray⟩:ByteArray)=S at KF KT;clear hv hkt;by_cases j3:j=3
      ·have b3:((j:Int)==3)=true:=by simp;omega
       have b4:(j==3)=true:=by simp;omega
       have J3:=Lib.hid j3;clear j3;go_wp2_with (first | (go_at_call 144;go_must (((with_reducible refine(KF.out _).mono ?_));rintro e w1 ⟨rfl,rfl⟩)) | (go_at_call 61;go_must (((with_reducible refine(KT.out _ HC.out.rd).mono ?_));rintro e w1 ⟨rfl,hs1⟩;have HD:=Lib.hid (HC.out.call hs1);clear hs1)));go_ret;rw[HX.out];exact⟨_,rfl,HD.out.step,fun y j e=>by injection e with e;exact e.symm⟩
      ·have ht:=hg.resolve_left j3
       subst ht;have b3:((j:Int)==3)=false:=by simp;omega
       have b4:(j==3)=false:=by simp;omega
       clear j3;go_wp2_with (first | (go_at_call 144;go_must (((with_reducible refine(KF.out _).mono ?_));rintro e w1 ⟨rfl,rfl⟩)) | (go_at_call 61;go_must (((with_reducible refine(KT.out _ HC.out.rd).mono ?_));rintro e w1 ⟨rfl,hs1⟩;have HD:=Lib.hid (HC.out.call hs1);clear hs1)));go_ret;rw[HX.out];exact⟨_,rfl,HD.out.step,fun y j e=>by injection e with e;exact e.symm⟩
    | false=>
      have KT:=takeC_f (b:=b) (A:=A) (n:=n) (c:=c) (W:=⟨(rwB j).toArray⟩) (by decide) hv
      have HX:Hid (∀ m,2≤m→m<j+1→(m=3∨told=false)→isO l 1 (rwB m) k o=false):=Lib.hid fun m hm0 hm hmg=>by
       by_cases c:m<j
       ·exact H3.out m hm0 c hmg
       ·have:m=j:=by omega
        subst this;exact hv
      generalize (⟨(rwB j).toArray⟩:ByteArray)=S at KF KT;clear hv;by_cases j3:j=3
      ·have b3:((j:Int)==3)=true:=by simp;omega
       have b4:(j==3)=true:=by simp;omega
       have J3:=Lib.hid j3;clear j3;go_wp2_with (first | (go_at_call 144;go_must (((with_reducible refine(KF.out _).mono ?_));rintro e w1 ⟨rfl,rfl⟩)) | (go_at_call 61;go_must (((with_reducible refine(KT.out _ HC.out.rd).mono ?_));rintro e w1 ⟨rfl,hs1⟩;have HD:=Lib.hid (HC.out.call hs1);clear hs1)))
       go_roundw
       case rel=>exact⟨j+1,by go_num,by omega,by omega,HX.out,HD.out⟩
       case measure=>simp[intOf];omega
      ·have ht:=hg.resolve_left j3
       subst ht;have b3:((j:Int)==3)=false:=by simp;omega
       have b4:(j==3)=false:=by simp;omega
       clear j3;go_wp2_with (first | (go_at_call 144;go_must (((with_reducible refine(KF.out _).mono ?_));rintro e w1 ⟨rfl,rfl⟩)) | (go_at_call 61;go_must (((with_reducible refine(KT.out _ HC.out.rd).mono ?_));rintro e w1 ⟨rfl,hs1⟩;have HD:=Lib.hid (HC.out.call hs1);clear hs1)))
       go_roundw
       case rel=>exact⟨j+1,by go_num,by omega,by omega,HX.out,HD.out⟩
       case measure=>simp[intOf];omega
   ·have hj3:¬ j=3:=fun e=>hg (.inl e)
    have ht:told=true:=by
     cases told with
     | true=>rfl
     | false=>exact absurd (.inr rfl) hg
    have HX:Hid (∀ m,2≤m→m<j+1→(m=3∨told=false)→isO l 1 (rwB m) k o=false):=Lib.hid fun m hm0 hm hmg=>by
     by_cases c:m<j
     ·exact H3.out m hm0 c hmg
     ·have:m=j:=by omega
      subst this;exact absurd hmg hg
    subst ht;have b3:((j:Int)==3)=false:=by simp;omega
    have b4:(j==3)=false:=by simp;omega
    clear hg hj3;go_wp2
    go_roundw
    case rel=>exact⟨j+1,by go_num,by omega,by omega,HX.out,HC.out⟩
    case measure=>simp[intOf];omega
  ·have h3:∀ m,2≤m→m<5→(m=3∨told=false)→isO l 1 (rwB m) k o=false:=fun m hm0 hm=>H3.out m hm0 (by omega)
   have HX:Hid (R.at=k∧R.err=(if o=0 then 1 else o)∧∀ y j,R≠ .ok y j):=Lib.hid (by rw[HR.out];exact gate_none HO.out fun e=>by subst e;exact rwordF_none h3);have KR:=refC1 b A n c l k o rfl;generalize (if o=0 then 1 else o)=o2 at KR HX;clear h3;go_wp2_with (first | (go_at_call 17;go_must (((with_reducible refine(KR.out _ HC.out.rd).mono ?_));rintro e w2 ⟨rfl,hs2⟩;have HE:=Lib.hid (HC.out.call hs2);clear hs2)));go_ret;rw[HX.out.1,HX.out.2.1];exact⟨0,rfl,HE.out.step,fun y j e=>absurd e (HX.out.2.2 y j)⟩
theorem exR_spec {l:List Tok} {k:Nat} (hk:k≤l.length):RdE l (.some 1) k 0 (exR l k):=by
 have h:=read_some l k hk;unfold exR;rw[dif_pos h];exact h.choose_spec
theorem isName_short {w:Bs} (h:isName w=true):w.length≤8∧w≠[]:=by
 unfold isName at h;simp at h;refine⟨?_,h.1⟩;rw[←h.2];exact(nameLen_le w).2
theorem isWordL_short {w:Bs} (h:isWordL w=true):w.length≤14:=by
 cases w with
 | nil=>exact Nat.zero_le _
 | cons c r=>
   unfold isWordL at h;simp at h;simp;omega
theorem okT_short {t:Tok} (h:okT t=true):t.word.length≤200:=by
 unfold okT at h
 split at h
 ·simp at h;rw[h.1.1];exact Nat.zero_le _
 ·split at h
  ·simp at h;rw[h.1.1];exact Nat.zero_le _
  ·simp at h
   have h:=h.1.1;unfold mayW at h
   split at h
   ·have:=isWordL_short h;omega
   ·split at h
    ·unfold isSignL at h
     simp[sgns] at h
     rcases h with h | h | h | h | h | h | h | h | h | h | h | h | h | h | h | h | h | h <;> (rw[h];decide)
    ·split at h
     ·unfold isFlagL at h
      simp at h
      rcases h with h | h | h | h <;> (rw[h];decide)
     ·split at h
      ·have:=(isName_short h).1;omega
      ·cases h
def CondS (b:Nat) (w:World) (A:Option Addr) (n c:Nat) (l:List Tok) (R:Rz Ex) (e:Ending) (w':World):Prop:=
 ∃ (x:Ex) (A':Option Addr) (c':Nat),e= .returned (.agg #[.int .i64 x.kind,.int .i64 x.n,.string ⟨x.name.toArray⟩,.string ⟨x.op.toArray⟩,.slice A' x.kids.length c'])∧StepS b w A n c l R.at R.err w'∧∀ y j,R= .ok y j→y=x∧KidsX (FrX w.heap.size w'.heap.size) w' A' x
abbrev zeroXs:List Value:=[.int .i64 0,.int .i64 0,.string ⟨#[]⟩,.string ⟨#[]⟩,.slice none 0 0]
abbrev NeedC (b:Nat) (A:Option Addr) (n c:Nat) (l:List Tok) (kd:Int) (W:ByteArray) (k o j o2:Nat):Prop:=Hid (∀ w',RdS b w' A n c l k o→Calls Tryz.prog 100 #[.pointer (some ⟨b,0,none⟩),.int .i64 kd,.string W] w' fun e w2=>e= .returned (.tuple #[])∧StepS b w' A n c l j o2 w2)
theorem needC (b:Nat) (A:Option Addr) (n c:Nat) (l:List Tok) (kd:Int) (hkd:kd≠0) (W:ByteArray) (k o:Nat) {j o2:Nat} (h1:(gate o k (needF l kd W.data.toList)).at=j) (h2:(gate o k (needF l kd W.data.toList)).err=o2):NeedC b A n c l kd W k o j o2:=Lib.hid fun w' h'=>by subst h1 h2;exact sneed_any kd hkd W b w' A n c l k o h'
theorem need_yes {l:List Tok} {kd:Int} {s:Bs} {k:Nat} (h:isO l kd s k 0=true):gate 0 k (needF l kd s)= .ok () (k+1):=by rw[gate_ok];unfold needF;rw[if_pos (show isT l kd s k=true from h)]
theorem need_no {l:List Tok} {kd:Int} {s:Bs} {k o:Nat} (ho:o=0∨o=1∨o=8) (h:isO l kd s k o=false):(gate o k (needF l kd s)).at=k∧(gate o k (needF l kd s)).err=(if o=0 then 1 else o)∧∀ y j,gate o k (needF l kd s)≠ .ok y j:=gate_none ho fun ho=>by
 subst ho;unfold needF;rw[if_neg (by rw[←isO_zero,h];decide)]
theorem sparse_any {b:Nat} {w:World} {A:Option Addr} {n c:Nat} {l:List Tok} {k:Nat} (h:RdS b w A n c l k 0):Calls Tryz.prog 101 #[.slice A n c,.int .i64 k] w (PostPF w (exR l k)):=
 parseF_any A n c l k w (h.row.up (Nat.le_of_lt h.lt)) h.fit (h.giv w (Below.refl _ _)) (by have:=h.le;have:=h.len;omega) (exR l k) (exR_spec (by have:=h.le;have:=h.len;omega))
theorem exR_small {b:Nat} {w:World} {A:Option Addr} {n c:Nat} {l:List Tok} {k o:Nat} (h:RdS b w A n c l k o) {i:Nat} (hi:i≤l.length) {x:Ex} {j:Nat} (e:exR l i= .ok x j):sizeX x≤1000000∧nmX x≤1000000∧i≤j∧j≤n:=by
 have hs:=exR_spec hi;rw[e] at hs;have h1:=RdE.small (fun t ht=>okT_short (h.fit.ok t ht)) (Nat.le_refl 1) hi hs;have h2:=hs.within (Nat.le_refl 1) hi;have:=h.few;have:=h.len;exact⟨by omega,by omega,h2.1,by have:=h2.2;omega⟩
theorem scond_no (b:Nat) (w:World) (A:Option Addr) (n c:Nat) (l:List Tok) (k o:Nat) (h:RdS b w A n c l k o) (hi:isO l 4 [40] k o=false):
  Calls Tryz.prog 59 #[.pointer (some ⟨b,0,none⟩)] w (CondS b w A n c l (gate o k (condF l))):=by
 have H:=Lib.hid (Cx.start h)
 have e1:(gate o k (condF l)).at=k∧(gate o k (condF l)).err=(if o=0 then 1 else o)∧∀ y j,gate o k (condF l)≠ .ok y j:=gate_none h.oks fun ho=>by
  subst ho;unfold condF needF;rw[if_neg (by rw[←isO_zero,hi];decide)];rfl
 have e2:=need_no h.oks hi;have KN:=needC b A n c l 4 (by decide) ⟨#[40]⟩ k o e2.1 e2.2.1;unfold CondS;rw[e1.1,e1.2.1];have ho:¬ (if o=0 then 1 else o)=0:=by split <;> omega
 suffices hs:Calls Tryz.prog 59 #[.pointer (some ⟨b,0,none⟩)] w fun e w'=>e= .returned (.agg #[.int .i64 0,.int .i64 0,.string ⟨#[]⟩,.string ⟨#[]⟩,.slice none 0 0])∧StepS b w A n c l k (if o=0 then 1 else o) w' from
  hs.mono fun e w' ⟨h1,h2⟩=>⟨exNone,none,0,h1,h2,fun y j hy=>absurd hy (e1.2.2 y j)⟩
 generalize (if o=0 then 1 else o)=o2 at KN ho ⊢;obtain⟨b1,b2,b3,b4⟩:=neq0_f ho;obtain⟨x0,x1,x2,_,_⟩:=H.out.rd.five;have hlt:=H.out.lt;clear h hi e1 e2 ho;go_enter Tryz.func59,Tryz.ntmps59;go_wp2_with (first | (go_at_call 100;go_must (((with_reducible refine(KN.out _ (H.out.rd.box _)).mono ?_));rintro e w1 ⟨rfl,hs1⟩;have HC:=Lib.hid ((H.out.alloc 38 zeroXs (by simp)).call hs1);obtain⟨d0,d1,d2,d3,d4⟩:=HC.out.rd.five;obtain⟨q0,q1,q2⟩:=HC.out.one;obtain⟨g0,g1,g2,g3,g4⟩:=(HC.out.box 0 w.heap.size zeroXs rfl).all5;obtain⟨j0,j1,j2,j3,j4⟩:=(HC.out.box 0 w.heap.size zeroXs rfl).fre5;clear hs1)));have HE:=HC.out.put5 0 w.heap.size _ _ _ _ _ rfl (.int .i64 0) (.int .i64 0) (.string ⟨#[]⟩) (.string ⟨#[]⟩) (.slice none 0 0);obtain⟨r0,r1,r2,r3,r4⟩:=(HE.box 0 w.heap.size _ rfl).all5;exact bodyPost_ret (v:= .agg #[.int .i64 0,.int .i64 0,.string ⟨#[]⟩,.string ⟨#[]⟩,.slice none 0 0]) (by simp[results,Tryz.results59,go_sem,r0,r1,r2,r3,r4]) rfl ⟨rfl,HE.step⟩
abbrev ParC (b:Nat) (A:Option Addr) (n c:Nat) (l:List Tok) (i:Nat) (x:Ex) (j er:Nat):Prop:=Hid (∀ w',RdS b w' A n c l i 0→Calls Tryz.prog 101 #[.slice A n c,.int .i64 i] w' fun e w2=>∃ A2 c2,
 e= .returned (.tuple #[.agg #[.int .i64 x.kind,.int .i64 x.n,.string ⟨x.name.toArray⟩,.string ⟨x.op.toArray⟩,.slice A2 x.kids.length c2],.int .i64 j,.int .i64 er])∧Below w'.heap.size w' w2∧KidsX (FrX w'.heap.size w2.heap.size) w2 A2 x)
theorem parC_ok {b:Nat} {A:Option Addr} {n c:Nat} {l:List Tok} {i:Nat} {x:Ex} {j:Nat} (h:exR l i= .ok x j):ParC b A n c l i x j 0:=Lib.hid fun w' h'=>by
 have:=sparse_any h';rw[h] at this;exact this.mono fun e w2 ⟨hb,A2,c2,he,hk⟩=>⟨A2,c2,he,hb,hk⟩
theorem parC_bad {b:Nat} {A:Option Addr} {n c:Nat} {l:List Tok} {i:Nat} {j er:Nat} (h:exR l i= .bad j er):ParC b A n c l i exNone j er:=Lib.hid fun w' h'=>by
 have:=sparse_any h';rw[h] at this;exact this.mono fun e w2 ⟨hb,he⟩=>⟨none,0,he,hb,KidsX.leaf _ _ _ _ _ _ _⟩
abbrev cellsX (x:Ex) (A:Option Addr) (c:Nat):List Value:=[.int .i64 x.kind,.int .i64 x.n,.string ⟨x.name.toArray⟩,.string ⟨x.op.toArray⟩,.slice A x.kids.length c]
theorem KidsX.putQ {m hi:Nat} {W:World} {A:Option Addr} {x:Ex} (h:KidsX (FrX (m+1) hi) W A x) (hh:hi≤W.heap.size) (v0 v1 v2 v3 v4:Value):
  KidsX (FrX m (((((W.setCell ⟨m,0,none⟩ v0).setCell ⟨m,1,none⟩ v1).setCell ⟨m,2,none⟩ v2).setCell ⟨m,3,none⟩ v3).setCell ⟨m,4,none⟩ v4).heap.size) (((((W.setCell ⟨m,0,none⟩ v0).setCell ⟨m,1,none⟩ v1).setCell ⟨m,2,none⟩ v2).setCell ⟨m,3,none⟩ v3).setCell ⟨m,4,none⟩ v4) A x:=
 (h.put5 (c:=m) (fun hp=>by have:=hp.1;omega) v0 v1 v2 v3 v4).to (Nat.le_succ _) (by have:=size_put5 W m v0 v1 v2 v3 v4;unfold Go.Proofs.YtngfihoempcplaaGreatDoor.put5 at this;rw[this];exact hh)
end Go.Proofs.YtngfihoempcplaaGreatDoor
