import Derived.Test.YtejgbpbljdhndaaDoorV2
namespace Go.Proofs.YtejgbpbljdhndaaDoor
open Go Go.RowKit
structure Ev where
 beg:Bool
 n:Int
 at_:Nat
abbrev Evs:=List Ev
def mark (b:Bool) (n:Int) (i:Nat) (l:Evs):Evs:=if n=0 then l else ⟨b,n,i⟩::l
def TimesD (R:Nat→Nat→Evs→Prop):Nat→Nat→Nat→Evs→Prop
 | 0,i,j,l=>i=j∧l=[]
 | n+1,i,j,l=>∃ m l1 l2,TimesD R n i m l1∧R m j l2∧l=l2++l1
mutual
def Der (s:Bs):Re→Nat→Nat→Evs→Prop
 | .mk k S ks lo hi n,i,j,l=>if k=0 then i=j∧l=[] else if k=1 then (∃ c,s[i]?=some c∧mem S c.toNat=true∧j=i+1)∧l=[]
   else if k=2 then (i=j∧i=0)∧l=[] else if k=3 then (i=j∧i=s.length)∧l=[]
   else if k=5 then DerA s ks i j l else if k=6 then (∃ m:Nat,lo≤m∧(hi<0∨m≤hi)∧TimesD (DerL s ks) m i j l)
   else if k=7 then (∃ l',DerL s ks i j l'∧l=mark false n j (l'++mark true n i [])) else DerL s ks i j l
def DerL (s:Bs):List Re→Nat→Nat→Evs→Prop
 | [],i,j,l=>i=j∧l=[]
 | r::rs,i,j,l=>∃ m l1 l2,Der s r i m l1∧DerL s rs m j l2∧l=l2++l1
def DerA (s:Bs):List Re→Nat→Nat→Evs→Prop
 | [],_,_,_=>False
 | r::rs,i,j,l=>Der s r i j l∨DerA s rs i j l
end
theorem z3d {R:Nat→Nat→Prop}:∀ {n i j:Nat},TimesW R (n+1) i j ↔ ∃ m,TimesW R n i m∧R m j
 | 0,i,j=>by
   simp only[TimesW];exact⟨fun ⟨m,h1,h2⟩=>⟨i,rfl,h2 ▸ h1⟩,fun ⟨m,h1,h2⟩=>⟨j,h1.symm ▸ h2,rfl⟩⟩
 | n+1,i,j=>by
   constructor
   ·rintro⟨m,h1,h2⟩
    obtain⟨q,h3,h4⟩:=z3d.mp h2;exact⟨q,⟨m,h1,h3⟩,h4⟩
   ·rintro⟨q,⟨m,h1,h3⟩,h4⟩
    exact⟨m,h1,z3d.mpr ⟨q,h3,h4⟩⟩
theorem z7w {R:Nat→Nat→Prop} {R':Nat→Nat→Evs→Prop} (h:∀ i j l,R' i j l→R i j):∀ n i j l,TimesD R' n i j l→TimesW R n i j
 | 0,_,_,_,h1=>h1.1
 | n+1,_,_,_,⟨_,_,_,h1,h2,_⟩=>z3d.mpr ⟨_,z7w h n _ _ _ h1,h _ _ _ h2⟩
theorem z6w (s:Bs) (r:Re):∀ i j l,Der s r i j l→Way s true true r i j:=by
 induction r using Re.ind with
 | h k S ks lo hi n ih=>
   have hL:∀ (l:List Re),(∀ r∈l,r∈ks)→(∀ i j e,DerL s l i j e→WayL s true true l i j)∧∀ i j e,DerA s l i j e→WayA s true true l i j:=by
    intro l
    induction l with
    | nil=>intro _;refine⟨fun i j e h=>?_,fun i j e h=>?_⟩ <;> simp only[DerL,DerA,WayL] at h ⊢;exact h.1
    | cons x l ihl=>
      intro hx;obtain⟨a1,a2⟩:=ihl fun y hy=>hx y (List.mem_cons_of_mem _ hy)
      have hx0:=ih x (hx x (List.mem_cons_self ..));refine⟨fun i j e h=>?_,fun i j e h=>?_⟩
      ·rw[DerL] at h;rw[WayL]
       obtain⟨m,l1,l2,h1,h2,_⟩:=h;exact⟨m,hx0 _ _ _ h1,a1 _ _ _ h2⟩
      ·rw[DerA] at h;rw[WayA]
       exact h.imp (hx0 _ _ _) (a2 _ _ _)
   obtain⟨h1,h2⟩:=hL ks fun _ h=>h
   intro i j l h;rw[Der] at h;rw[Way]
   split at h
   ·simp_all
   split at h
   ·simp_all
   split at h
   ·rename_i q;subst q;simp;exact h.1
   split at h
   ·rename_i q;subst q;simp;exact h.1
   split at h
   ·simp_all;exact h2 _ _ _ h
   split at h
   ·obtain⟨m,q1,q2,q3⟩:=h
    simp_all;exact⟨m,q1,q2,z7w h1 _ _ _ _ q3⟩
   split at h
   ·obtain⟨l',q1,q2⟩:=h
    simp_all;exact h1 _ _ _ q1
   ·simp_all;exact h1 _ _ _ h
def lastOf (b:Bool) (n:Int):Evs→Int
 | []=> -1
 | e::l=>if e.beg=b∧e.n=n then e.at_ else lastOf b n l
theorem z2a (b:Bool) (n:Int):∀ l l':Evs,lastOf b n (l++l')=if lastOf b n l<0 then lastOf b n l' else lastOf b n l
 | [],l'=>by simp[lastOf]
 | e::l,l'=>by
   rw[List.cons_append,lastOf,lastOf,z2a b n l l']
   split
   ·rename_i h;rw[if_neg (by omega)]
   ·rfl
theorem y1p (b:Bool) (n:Int):∀ l:Evs, -1≤lastOf b n l
 | []=>by simp[lastOf]
 | e::l=>by rw[lastOf];have:=y1p b n l;split <;> omega
def SameE (l l':Evs):Prop:=∀ b n,lastOf b n l=lastOf b n l'
theorem SameE.refl (l:Evs):SameE l l:=fun _ _=>rfl
theorem SameE.app {a a' b b':Evs} (h:SameE a a') (h':SameE b b'):SameE (a++b) (a'++b'):=fun q n=>by rw[z2a,z2a,h,h']
theorem SameE.cons {a a':Evs} (e:Ev) (h:SameE a a'):SameE (e::a) (e::a'):=fun q n=>by rw[lastOf,lastOf,h]
theorem SameE.mark {a a':Evs} {b:Bool} {n:Int} {i:Nat} (h:SameE a a'):SameE (mark b n i a) (Go.Proofs.YtejgbpbljdhndaaDoor.mark b n i a'):=by
 unfold Go.Proofs.YtejgbpbljdhndaaDoor.mark
 split
 ·exact h
 ·exact h.cons _
theorem SameE.twice {a b c d:Evs} (h1:SameE a (b++c)) (h2:SameE b d):SameE a (d++a):=fun q n=>by
 rw[z2a,h1 q n,z2a,h2 q n]
 split <;> simp_all
theorem SameE.trans {a b c:Evs} (h1:SameE a b) (h2:SameE b c):SameE a c:=fun q n=>(h1 q n).trans (h2 q n)
theorem y2x (b:Bool) (n:Int) (i:Nat) (l l':Evs):mark b n i l++l'=mark b n i (l++l'):=by unfold mark;split <;> rfl
theorem z2x {b b':Bool} {n n':Int} {i:Nat} {l:Evs} (h:n'≠n∨b'≠b):lastOf b' n' (mark b n i l)=lastOf b' n' l:=by
 unfold mark
 split
 ·rfl
 ·rw[lastOf,if_neg]
  rintro⟨h1,h2⟩
  rcases h with h | h
  ·exact h h2.symm
  ·exact h h1.symm
theorem z4i {b:Bool} {n:Int} (hn:n≠0) {i:Nat} {l:Evs}:lastOf b n (mark b n i l)=i:=by
 unfold mark;rw[if_neg hn,lastOf,if_pos ⟨rfl,rfl⟩]
def Re.num:Re→Int | .mk _ _ _ _ _ n=>n
structure TabF (T:List Nd):Prop where
 kid:∀ {p:Nat} {nd:Nd} {k q:Nat},T[p]?=some nd→nd.kids[k]?=some q→∃ nd',T[q]?=some nd'∧nd.r.kids[k]?=some nd'.r∧nd'.par=p∧
  nd'.nx=(if nd.r.kind=4∧k+1<nd.kids.length then nd.kids.getD (k+1) 0 else 0)∧p<q
 len:∀ {p:Nat} {nd:Nd},T[p]?=some nd→nd.kids.length=nd.r.kids.length
 fine:∀ {p:Nat} {nd:Nd},T[p]?=some nd→Fine nd.r
theorem z2p:∀ (l:List Re) (n:Nat),(kidsAt n l).length=l.length
 | [],n=>by rw[kidsAt];rfl
 | r::l,n=>by rw[kidsAt,List.length_cons,List.length_cons,z2p l]
theorem y21 {T:List Nd} {p:Nat} {q:Bool}:∀ {l:List Re} {n c k m:Nat},SubL T n l q p c→(kidsAt n l)[k]?=some m→
  ∃ r nx c',l[k]?=some r∧Sub T m r p nx c'∧nx=(if q=true∧k+1<l.length then (kidsAt n l).getD (k+1) 0 else 0)∧n≤m
 | [],n,c,k,m,_,h=>by rw[kidsAt] at h;simp at h
 | r::l,n,c,k,m,hs,h=>by
   obtain⟨s1,s2⟩:=z5c hs;rw[kidsAt] at h ⊢
   cases k with
   | zero=>
     simp only[List.getElem?_cons_zero,Option.some.injEq] at h;subst h;refine⟨r,_,_,rfl,s1,?_,Nat.le_refl _⟩
     cases l with
     | nil=>simp
     | cons x l=>cases q <;> simp[kidsAt]
   | succ k=>
     rw[List.getElem?_cons_succ] at h;obtain⟨r',nx,c',h1,h2,h3,h4⟩:=y21 s2 h;refine⟨r',nx,c',by rw[List.getElem?_cons_succ];exact h1,h2,?_,by have:=z6v r;omega⟩;rw[h3];simp[List.length_cons]
theorem tab_f (R:Re) (hF:Fine R):TabF (tabE R 0 0 0 0):=by
 have hS:∀ {p:Nat} {nd:Nd},(tabE R 0 0 0 0)[p]?=some nd→∃ r a b c,Sub (tabE R 0 0 0 0) p r a b c∧Fine r∧nd=ndOf r p a b c:=fun {p nd} h=>by
  have hp:=(List.getElem?_eq_some_iff.mp h).1;rw[z25] at hp;obtain⟨r,a,b,c,h1,h2⟩:=y8u R hF (T:=tabE R 0 0 0 0) (n:=0) (p:=0) (nx:=0) (c:=0) ⟨[],by simp⟩ p (Nat.zero_le _) (by omega);have:=y2y h1;rw[h] at this;injection this with this
  exact⟨r,a,b,c,h1,h2,this⟩
 refine⟨fun {p nd k q} h hk=>?_,fun {p nd} h=>?_,fun {p nd} h=>?_⟩
 ·obtain⟨r,a,b,c,h1,h2,rfl⟩:=hS h
  obtain⟨r',nx,c',g1,g2,g3,g4⟩:=y21 (z52 h1) hk;refine⟨_,y2y g2,g1,rfl,?_,by omega⟩;show nx=_;rw[g3];unfold ndOf;simp[z2p]
 ·obtain⟨r,a,b,c,h1,h2,rfl⟩:=hS h
  unfold ndOf;rw[z2p]
 ·obtain⟨r,a,b,c,h1,h2,rfl⟩:=hS h
  exact h2
structure Spo where
 part:Nat
 done:Nat
 place:Nat
 mover:Int
 count:Nat
def topM (r:Re):Nat:=(max r.lo r.hi).toNat
def oneM (r:Re) (n:Nat):Nat:=min (n+1) (topM r)
def moreQ (r:Re) (n:Nat):Bool:=decide (r.hi<0) || decide ((n:Int)<r.hi)
def apartQ (r:Re):Bool:=cntQ r && decide (0<cntL r.kids)
inductive Lab where
 | keep | beg (n:Int) | fin (n:Int)
def Lab.put:Lab→Nat→Evs→Evs
 | .keep,_,l=>l
 | .beg n,i,l=>mark true n i l
 | .fin n,i,l=>mark false n i l
def endN (nd:Nd) (x:Spo):Spo:={ x with done:=1,count:=if cntQ nd.r=true then 0 else x.count }
def kidN (nd:Nd) (x:Spo) (n:Nat):Spo:=⟨nd.kids.headD 0,0,x.place,if nd.r.lo≤n then x.part else x.mover,if cntQ nd.r=true then n else x.count⟩
def repN (nd:Nd) (x:Spo) (n:Nat):List Spo:=(if nd.r.lo≤n then [endN nd x] else [])++(if moreQ nd.r n=true then [kidN nd x n] else [])
def hasQ (s:Bs) (r:Re) (i:Nat):Bool:=match s[i]? with
 | none=>false
 | some c=>mem r.set c.toNat
def entN (s:Bs) (to:Nat) (nd:Nd) (x:Spo):List Spo × Lab:=
 if nd.r.kind=4 then ([{ x with part:=nd.kids.headD 0 }],.keep)
 else if nd.r.kind=5 then (nd.kids.map fun q=>{ x with part:=q },.keep)
 else if nd.r.kind=7 then ([{ x with part:=nd.kids.headD 0 }],.beg nd.r.num)
 else if nd.r.kind=6 then (if apartQ nd.r=true then [{ x with done:=2 }] else repN nd x 0,.keep)
 else if nd.r.kind=1 then (if x.place<to∧hasQ s nd.r x.place=true then [{ x with done:=1,place:=x.place+1,mover:= -1 }] else [],.keep)
 else (if (nd.r.kind=2∧0<x.place)∨(nd.r.kind=3∧x.place<s.length) then [] else [{ x with done:=1 }],.keep)
def leaN (T:List Nd) (nd:Nd) (x:Spo):List Spo × Lab:=
 if nd.nx≠0 then ([{ x with part:=nd.nx,done:=0 }],.keep)
 else match T[nd.par]? with
  | none=>([],.keep)
  | some pd=>if pd.r.kind=7 then ([{ x with part:=nd.par }],.fin pd.r.num)
    else if pd.r.kind=6 then (if x.mover=(nd.par:Int) then [] else repN pd { x with part:=nd.par } (oneM pd.r x.count),.keep)
    else ([{ x with part:=nd.par }],.keep)
def timeN (nd:Nd) (x:Spo) (j:Nat):Spo:={ x with done:=2+oneM nd.r (x.done - 2),place:=j,mover:=if x.place<j then -1 else x.mover }
def timeQ (nd:Nd) (x:Spo) (j:Nat):Bool:=moreQ nd.r (x.done - 2) && (decide (x.place<j) || decide (((x.done - 2:Nat):Int)<nd.r.lo))
theorem Fine.six {r:Re} (h:Fine r) (hk:r.kind=6):(∃ x,r.kids=[x])∧0≤r.lo∧r.lo≤8∧(r.hi= -1∨r.lo≤r.hi∧r.hi≤8):=by
 have:=h.cases;simp only[hk] at this;simpa using this
theorem z5l {r:Re} (h:Fine r) (hk:r.kind=6):r.lo≤topM r∧r.hi≤topM r∧topM r≤8:=by
 obtain⟨_,h1,h2,h3⟩:=h.six hk;unfold topM;omega
theorem z95 {r:Re} (h:Fine r) (hk:r.kind=6) (n:Nat):r.lo≤((min n (topM r):Nat):Int) ↔ r.lo≤n:=by
 have:=z5l h hk;omega
theorem z55 {r:Re} (h:Fine r) (hk:r.kind=6) (n:Nat):moreQ r (min n (topM r))=moreQ r n:=by
 have:=z5l h hk;unfold moreQ;by_cases h1:r.hi<0
 ·simp[h1]
 ·rw[decide_eq_false h1,Bool.false_or,Bool.false_or,decide_eq_decide];omega
theorem z57 {r:Re} (n:Nat):oneM r (min n (topM r))=min (n+1) (topM r):=by unfold oneM;omega
theorem y1u {r:Re} (h:Fine r) (hk:r.kind=6) (hc:cntQ r=false) (c n:Nat):oneM r c=min (n+1) (topM r):=by
 obtain⟨_,h1,h2,h3⟩:=h.six hk;unfold cntQ at hc;simp only[hk,decide_true,Bool.true_and,Bool.or_eq_false_iff,Bool.and_eq_false_iff,decide_eq_false_iff_not] at hc;unfold oneM topM;omega
theorem ent_4 {s:Bs} {to:Nat} {nd:Nd} {x:Spo} (h:nd.r.kind=4):entN s to nd x=([{ x with part:=nd.kids.headD 0 }],.keep):=by unfold entN;rw[if_pos h]
theorem ent_5 {s:Bs} {to:Nat} {nd:Nd} {x:Spo} (h:nd.r.kind=5):entN s to nd x=(nd.kids.map fun q=>{ x with part:=q },.keep):=by unfold entN;rw[if_neg (by omega),if_pos h]
theorem ent_7 {s:Bs} {to:Nat} {nd:Nd} {x:Spo} (h:nd.r.kind=7):entN s to nd x=([{ x with part:=nd.kids.headD 0 }],.beg nd.r.num):=by unfold entN;rw[if_neg (by omega),if_neg (by omega),if_pos h]
theorem ent_6 {s:Bs} {to:Nat} {nd:Nd} {x:Spo} (h:nd.r.kind=6):entN s to nd x=(if apartQ nd.r=true then [{ x with done:=2 }] else repN nd x 0,.keep):=by
 unfold entN;rw[if_neg (by omega),if_neg (by omega),if_neg (by omega),if_pos h]
theorem ent_1 {s:Bs} {to:Nat} {nd:Nd} {x:Spo} (h:nd.r.kind=1):entN s to nd x=(if x.place<to∧hasQ s nd.r x.place=true then [{ x with done:=1,place:=x.place+1,mover:= -1 }] else [],.keep):=by
 unfold entN;rw[if_neg (by omega),if_neg (by omega),if_neg (by omega),if_neg (by omega),if_pos h]
theorem ent_x {s:Bs} {to:Nat} {nd:Nd} {x:Spo} (h:nd.r.kind=0∨nd.r.kind=2∨nd.r.kind=3):entN s to nd x=(if (nd.r.kind=2∧0<x.place)∨(nd.r.kind=3∧x.place<s.length) then [] else [{ x with done:=1 }],.keep):=by
 unfold entN;rw[if_neg (by omega),if_neg (by omega),if_neg (by omega),if_neg (by omega),if_neg (by omega)]
section
inductive PreD (T:List Nd) (s:Bs) (n0 p0:Nat):Nat→Nat→Nat→Evs→Prop
 | root:PreD T s n0 p0 n0 p0 0 []
 | cat {p q k i x c:Nat} {nd:Nd} {l l1:Evs}:PreD T s n0 p0 p i c l→T[p]?=some nd→nd.r.kind=4→nd.kids[k]?=some q→DerL s (nd.r.kids.take k) i x l1→PreD T s n0 p0 q x c (l1++l)
 | alt {p q k i c:Nat} {nd:Nd} {l:Evs}:PreD T s n0 p0 p i c l→T[p]?=some nd→nd.r.kind=5→nd.kids[k]?=some q→PreD T s n0 p0 q i c l
 | grp {p q i c:Nat} {nd:Nd} {l:Evs}:PreD T s n0 p0 p i c l→T[p]?=some nd→nd.r.kind=7→nd.kids[0]?=some q→PreD T s n0 p0 q i c (mark true nd.r.num i l)
 | rep {p q i x c n c':Nat} {nd:Nd} {l l1:Evs}:PreD T s n0 p0 p i c l→T[p]?=some nd→nd.r.kind=6→apartQ nd.r=false→nd.kids[0]?=some q→TimesD (DerL s nd.r.kids) n i x l1→moreQ nd.r n=true→
  c'=(if cntQ nd.r=true then min n (topM nd.r) else c)→PreD T s n0 p0 q x c' (l1++l)
def HoldD (T:List Nd) (s:Bs) (n0 p0:Nat) (x:Spo) (l:Evs):Prop:=∃ nd,T[x.part]?=some nd∧
 ((x.done=0∧PreD T s n0 p0 x.part x.place x.count l)∨
 (x.done=1∧∃ i l0 l1,PreD T s n0 p0 x.part i x.count l0∧Der s nd.r i x.place l1∧l=l1++l0)∨
 (2≤x.done∧nd.r.kind=6∧apartQ nd.r=true∧∃ i l0 l1 n,PreD T s n0 p0 x.part i x.count l0∧TimesD (DerL s nd.r.kids) n i x.place l1∧(nd.r.hi<0∨(n:Int)≤nd.r.hi)∧x.done=2+min n (topM nd.r)∧l=l1++l0))
def HoldS (T:List Nd) (s:Bs) (n0 p0:Nat) (x:Spo) (l:Evs):Prop:=∃ l0,HoldD T s n0 p0 x l0∧SameE l l0
theorem z9o {s:Bs} {r:Re}:∀ {l:List Re} {i j x:Nat} {e e':Evs},DerL s l i x e→Der s r x j e'→DerL s (l++[r]) i j (e'++e)
 | [],i,j,x,e,e',h1,h2=>by
   rw[DerL] at h1;obtain⟨rfl,rfl⟩:=h1;rw[List.nil_append,DerL];exact⟨j,e',[],h2,by rw[DerL];exact⟨rfl,rfl⟩,by simp⟩
 | y::l,i,j,x,e,e',h1,h2=>by
   rw[DerL] at h1;obtain⟨m,l1,l2,h3,h4,rfl⟩:=h1;rw[List.cons_append,DerL];exact⟨m,l1,e'++l2,h3,z9o h4 h2,by rw[List.append_assoc]⟩
theorem z8w {s:Bs} {r:Re} {i j:Nat} {e:Evs}:DerL s [r] i j e ↔ Der s r i j e:=by
 rw[DerL]
 constructor
 ·rintro⟨m,l1,l2,h1,h2,rfl⟩
  rw[DerL] at h2;obtain⟨rfl,rfl⟩:=h2;exact h1
 ·intro h
  exact⟨j,e,[],h,by rw[DerL];exact⟨rfl,rfl⟩,by simp⟩
theorem y5v {s:Bs} {i j:Nat} {e:Evs} {r:Re}:∀ {l:List Re},r∈l→Der s r i j e→DerA s l i j e
 | y::l,h,h1=>by
   rw[DerA]
   rcases List.mem_cons.1 h with rfl | h
   ·exact .inl h1
   ·exact .inr (y5v h h1)
theorem z5w (s:Bs) (r:Re):Der s r=Der s (.mk r.kind r.set r.kids r.lo r.hi r.num):=by cases r;rfl
theorem der_0 {s:Bs} {r:Re} {i:Nat} (h:r.kind=0):Der s r i i []:=by rw[z5w,Der];simp[h]
theorem der_1 {s:Bs} {r:Re} {i:Nat} (h:r.kind=1) (h1:hasQ s r i=true):Der s r i (i+1) []:=by
 rw[z5w,Der];unfold hasQ at h1;simp only[h,if_neg (show ¬ (1:Int)=0 by decide),if_true]
 cases hc:s[i]? with
 | none=>rw[hc] at h1;cases h1
 | some c=>rw[hc] at h1;exact⟨⟨c,rfl,h1,trivial⟩,trivial⟩
theorem der_2 {s:Bs} {r:Re} (h:r.kind=2):Der s r 0 0 []:=by rw[z5w,Der];simp[h]
theorem der_3 {s:Bs} {r:Re} (h:r.kind=3):Der s r s.length s.length []:=by rw[z5w,Der];simp[h]
theorem der_4 {s:Bs} {r:Re} {i j:Nat} {e:Evs} (h:r.kind=4) (h1:DerL s r.kids i j e):Der s r i j e:=by rw[z5w,Der];simpa[h] using h1
theorem der_5 {s:Bs} {r:Re} {i j:Nat} {e:Evs} (h:r.kind=5) (h1:DerA s r.kids i j e):Der s r i j e:=by rw[z5w,Der];simpa[h] using h1
theorem der_6 {s:Bs} {r:Re} {i j n:Nat} {e:Evs} (h:r.kind=6) (h1:TimesD (DerL s r.kids) n i j e) (h2:r.lo≤n) (h3:r.hi<0∨(n:Int)≤r.hi):Der s r i j e:=by
 rw[z5w,Der];simp[h];exact⟨n,h2,h3,h1⟩
theorem der_7 {s:Bs} {r:Re} {i j:Nat} {e:Evs} (h:r.kind=7) (h1:DerL s r.kids i j e):Der s r i j (mark false r.num j (e++mark true r.num i [])):=by
 rw[z5w,Der];simp[h];exact⟨e,h1,rfl⟩
variable {T:List Nd} {s:Bs} {n0 p0:Nat}
theorem z2c {nd:Nd} {p:Nat} (hT:TabF T) (h:T[p]?=some nd) {x:Re} {l:List Re} (hk:nd.r.kids=x::l):nd.kids[0]?=some (nd.kids.headD 0):=by
 have:=hT.len h;rw[hk] at this
 cases hq:nd.kids with
 | nil=>rw[hq] at this;cases this
 | cons a b=>rfl
theorem y2f (hT:TabF T) {x:Spo} {nd:Nd} (hn:T[x.part]?=some nd) (hk:nd.r.kind=6) (ha:apartQ nd.r=false) {i c n m:Nat} {l0 l1:Evs} (hp:PreD T s n0 p0 x.part i c l0)
  (hc:cntQ nd.r=false→x.count=c) (hc':cntQ nd.r=true→c=0)
  (ht:TimesD (DerL s nd.r.kids) n i x.place l1) (hh:nd.r.hi<0∨(n:Int)≤nd.r.hi) (hm:m=min n (topM nd.r)):∀ y∈repN nd x m,HoldD T s n0 p0 y (l1++l0):=by
 have hF:=hT.fine hn;obtain⟨⟨r1,hr1⟩,_⟩:=hF.six hk;intro y hy;unfold repN at hy;rw[List.mem_append] at hy;subst hm
 rcases hy with hy | hy
 ·split at hy
  ·rename_i h1
   rw[List.mem_singleton] at hy;subst hy;refine⟨nd,hn,.inr (.inl ⟨rfl,i,l0,l1,?_,der_6 hk ht ((z95 hF hk n).mp h1) hh,rfl⟩)⟩;show PreD T s n0 p0 x.part i (if cntQ nd.r=true then 0 else x.count) l0
   split
   ·rename_i h2;rw[←hc' h2];exact hp
   ·rename_i h2;rw[hc (by simpa using h2)];exact hp
  ·cases hy
 ·split at hy
  ·rename_i h1
   rw[List.mem_singleton] at hy;subst hy;have hq:=z2c hT hn hr1;obtain⟨nd',e1,_⟩:=hT.kid hn hq;refine⟨nd',e1,.inl ⟨rfl,?_⟩⟩;refine .rep hp hn hk ha hq ht (by rw[←z55 hF hk];exact h1) ?_;show (if cntQ nd.r=true then min n (topM nd.r) else x.count)=_
   split
   ·rfl
   ·rename_i h2;exact hc (by simpa using h2)
  ·cases hy
theorem z5o (hT:TabF T) {p i c:Nat} {l:Evs} (h:PreD T s n0 p0 p i c l):n0≤p:=by
 induction h with
 | root=>exact Nat.le_refl _
 | cat _ h1 _ h2 _ ih=>obtain⟨_,_,_,_,_,h3⟩:=hT.kid h1 h2;omega
 | alt _ h1 _ h2 ih=>obtain⟨_,_,_,_,_,h3⟩:=hT.kid h1 h2;omega
 | grp _ h1 _ h2 ih=>obtain⟨_,_,_,_,_,h3⟩:=hT.kid h1 h2;omega
 | rep _ h1 _ _ h2 _ _ _ ih=>obtain⟨_,_,_,_,_,h3⟩:=hT.kid h1 h2;omega
theorem z8d {x:Re}:∀ {l:List Re},x∈l→cntE x≤cntL l
 | y::l,h=>by
   rw[cntL]
   rcases List.mem_cons.1 h with rfl | h
   ·omega
   ·have:=z8d h;omega
theorem z4n (r:Re):cntE r=(if cntQ r=true then 1 else 0)+cntL r.kids:=by cases r;rw[cntE];rfl
theorem y7p (hT:TabF T) {p i c:Nat} {l:Evs} (h:PreD T s n0 p0 p i c l):∀ {nd:Nd},T[p]?=some nd→0<c→cntE nd.r=0:=by
 have up:∀ {p q k:Nat} {nd nd':Nd},T[p]?=some nd→nd.kids[k]?=some q→T[q]?=some nd'→cntE nd'.r≤cntL nd.r.kids:=fun {p q k nd nd'} h1 h2 h3=>by
  obtain⟨nd2,e1,e2,_⟩:=hT.kid h1 h2;rw[h3] at e1;injection e1 with e1;subst e1
  exact z8d (List.mem_of_getElem? e2)
 induction h with
 | root=>intro nd _ h;omega
 | cat _ h1 _ h2 _ ih=>intro nd h3 h4;have:=up h1 h2 h3;have:=ih h1 h4;rw[z4n] at this;omega
 | alt _ h1 _ h2 ih=>intro nd h3 h4;have:=up h1 h2 h3;have:=ih h1 h4;rw[z4n] at this;omega
 | grp _ h1 _ h2 ih=>intro nd h3 h4;have:=up h1 h2 h3;have:=ih h1 h4;rw[z4n] at this;omega
 | rep _ h1 _ h5 h2 _ _ hc ih=>
   intro nd h3 h4;have:=up h1 h2 h3;rw[hc] at h4
   split at h4
   ·rename_i h6
    unfold apartQ at h5;simp only[h6,Bool.true_and,decide_eq_false_iff_not] at h5;omega
   ·have:=ih h1 h4;rw[z4n] at this;omega
theorem z7r (hT:TabF T) {p i c:Nat} {l:Evs} (h:PreD T s n0 p0 p i c l) {nd:Nd} (hn:T[p]?=some nd) (hq:cntQ nd.r=true):c=0:=by
 by_cases hc:c=0
 ·exact hc
 ·have:=y7p hT h hn (by omega)
  rw[z4n,if_pos hq] at this;omega
theorem y2c (hT:TabF T) {to:Nat} {x:Spo} {l:Evs} {nd:Nd} (h:HoldS T s n0 p0 x l) (hn:T[x.part]?=some nd) (hd:x.done=0) (hpl:x.place≤s.length):
  ∀ y∈(entN s to nd x).1,HoldS T s n0 p0 y ((entN s to nd x).2.put x.place l):=by
 obtain⟨l0,⟨nd',e1,h⟩,hl⟩:=h;rw[hn] at e1;injection e1 with e1;subst e1
 have hp:PreD T s n0 p0 x.part x.place x.count l0:=by
  rcases h with ⟨_,h⟩ | ⟨h,_⟩ | ⟨h,_⟩
  ·exact h
  ·omega
  ·omega
 have hF:=hT.fine hn;have hc:=hF.cases
 have step:∀ {q:Nat} {c:Nat},(∃ k:Nat,nd.kids[k]?=some q)→PreD T s n0 p0 q x.place c l0→∀ m,HoldS T s n0 p0 ⟨q,0,x.place,m,c⟩ l:=fun {q c} ⟨k,hk⟩ h m=>by
  obtain⟨nd',e1,_⟩:=hT.kid hn hk;exact⟨l0,⟨nd',e1,.inl ⟨rfl,h⟩⟩,hl⟩
 have leaf:∀ {j:Nat},Der s nd.r x.place j []→∀ m,HoldS T s n0 p0 ⟨x.part,1,j,m,x.count⟩ l:=fun {j} h m=>⟨l0,⟨nd,hn,.inr (.inl ⟨rfl,_,_,_,hp,h,by simp⟩)⟩,hl⟩
 obtain⟨xp,xd,xi,xm,xc⟩:=x;dsimp only at hd hn hp hpl leaf step ⊢;subst hd;intro y hy
 rcases hc with ⟨hk,_⟩ | ⟨hk,_⟩ | ⟨hk,_⟩ | ⟨hk,_⟩ | ⟨hk,a,b,lk,hr⟩ | ⟨hk,a,b,lk,hr⟩ | ⟨hk,⟨a,hr⟩,_⟩ | ⟨hk,a,hr⟩
 ·rw[ent_x (.inl hk)] at hy ⊢
  rw[if_neg (by omega),List.mem_singleton] at hy;subst hy;exact leaf (der_0 hk) xm
 ·rw[ent_1 hk] at hy ⊢
  dsimp only at hy
  split at hy
  ·rename_i h1
   rw[List.mem_singleton] at hy;subst hy;exact leaf (der_1 hk h1.2) (-1)
  ·cases hy
 ·rw[ent_x (.inr (.inl hk))] at hy ⊢
  dsimp only at hy
  split at hy
  ·cases hy
  ·rename_i h1
   rw[List.mem_singleton] at hy;subst hy;have h2:xi=0:=by omega
   subst h2;exact leaf (der_2 hk) xm
 ·rw[ent_x (.inr (.inr hk))] at hy ⊢
  dsimp only at hy
  split at hy
  ·cases hy
  ·rename_i h1
   rw[List.mem_singleton] at hy;subst hy;have h2:xi=s.length:=by omega
   subst h2;exact leaf (der_3 hk) xm
 ·rw[ent_4 hk] at hy ⊢
  rw[List.mem_singleton] at hy;subst hy;have hq:=z2c hT hn hr;exact step ⟨0,hq⟩ (PreD.cat (l1:=[]) hp hn hk hq (by rw[List.take_zero,DerL];exact⟨rfl,rfl⟩)) xm
 ·rw[ent_5 hk] at hy ⊢
  dsimp only at hy;obtain⟨q,hq,rfl⟩:=List.mem_map.1 hy;obtain⟨k,hq⟩:=List.getElem?_of_mem hq;exact step ⟨k,hq⟩ (PreD.alt hp hn hk hq) xm
 ·rw[ent_6 hk] at hy ⊢
  dsimp only at hy
  split at hy
  ·rename_i ha
   rw[List.mem_singleton] at hy;subst hy;exact⟨l0,⟨nd,hn,.inr (.inr ⟨Nat.le_refl _,hk,ha,xi,l0,[],0,hp,⟨rfl,rfl⟩,by have:=hF.six hk;omega,by simp,by simp⟩)⟩,hl⟩
  ·rename_i ha
   exact⟨[]++l0,y2f hT (x:=⟨xp,0,xi,xm,xc⟩) hn hk (by simpa using ha) hp (fun _=>rfl) (fun h=>z7r hT hp hn h) (n:=0) (l1:=[]) ⟨rfl,rfl⟩ (by have:=hF.six hk;omega) (by simp) y hy,hl⟩
 ·rw[ent_7 hk] at hy ⊢
  rw[List.mem_singleton] at hy;subst hy;have hq:=z2c hT hn hr;obtain⟨nd',e1,_⟩:=hT.kid hn hq;exact⟨_,⟨nd',e1,.inl ⟨rfl,PreD.grp hp hn hk hq⟩⟩,hl.mark⟩
end
section
variable {T:List Nd} {s:Bs} {n0 p0:Nat}
theorem z43 {nd:Nd} {x:Spo} (h:nd.nx≠0):leaN T nd x=([{ x with part:=nd.nx,done:=0 }],.keep):=by unfold leaN;rw[if_pos h]
theorem lea_7 {nd pd:Nd} {x:Spo} (h:nd.nx=0) (hp:T[nd.par]?=some pd) (hk:pd.r.kind=7):leaN T nd x=([{ x with part:=nd.par }],.fin pd.r.num):=by
 unfold leaN;rw[if_neg (by omega),hp];dsimp only;rw[if_pos hk]
theorem lea_6 {nd pd:Nd} {x:Spo} (h:nd.nx=0) (hp:T[nd.par]?=some pd) (hk:pd.r.kind=6):leaN T nd x=(if x.mover=(nd.par:Int) then [] else repN pd { x with part:=nd.par } (oneM pd.r x.count),.keep):=by
 unfold leaN;rw[if_neg (by omega),hp];dsimp only;rw[if_neg (by omega),if_pos hk]
theorem lea_x {nd pd:Nd} {x:Spo} (h:nd.nx=0) (hp:T[nd.par]?=some pd) (hk:pd.r.kind≠7∧pd.r.kind≠6):leaN T nd x=([{ x with part:=nd.par }],.keep):=by
 unfold leaN;rw[if_neg (by omega),hp];dsimp only;rw[if_neg hk.1,if_neg hk.2]
theorem y78 (hT:TabF T) {x:Spo} {l:Evs} {nd:Nd} (h:HoldS T s n0 p0 x l) (hn:T[x.part]?=some nd) (hd:x.done=1) (hne:x.part≠n0):
  ∀ y∈(leaN T nd x).1,HoldS T s n0 p0 y ((leaN T nd x).2.put x.place l):=by
 obtain⟨l0,⟨nd',e1,h⟩,hl⟩:=h;rw[hn] at e1;injection e1 with e1;subst e1
 have hp:∃ i l0' l1,PreD T s n0 p0 x.part i x.count l0'∧Der s nd.r i x.place l1∧l0=l1++l0':=by
  rcases h with ⟨h,_⟩ | ⟨_,h⟩ | ⟨h,_⟩
  ·omega
  ·exact h
  ·omega
 obtain⟨i,l0',l1,hp,hdr,rfl⟩:=hp;obtain⟨xp,xd,xi,xm,xc⟩:=x;dsimp only at hd hn hne hp hdr ⊢;subst hd;intro y hy
 cases hp with
 | root=>exact absurd rfl hne
 | cat hp hnp hk hq hL=>
   rename_i p k i0 ndp la lb
   obtain⟨nd2,e1,e2,e3,e4,e5⟩:=hT.kid hnp hq;rw[hn] at e1;injection e1 with e1;subst e1
   have hkl:=(List.getElem?_eq_some_iff.mp hq).1;have hlen:=hT.len hnp
   have htk:ndp.r.kids.take (k+1)=ndp.r.kids.take k++[nd.r]:=by
    obtain⟨h1,h2⟩:=List.getElem?_eq_some_iff.mp e2;rw[List.take_succ_eq_append_getElem h1,h2]
   have hL':=z9o hL hdr;rw[←htk] at hL';by_cases hlt:k+1<ndp.kids.length
   ·rw[if_pos ⟨hk,hlt⟩] at e4
    have hq':ndp.kids[k+1]?=some nd.nx:=by rw[e4,List.getD_eq_getElem?_getD,List.getElem?_eq_getElem hlt];rfl
    obtain⟨nd3,f1,f2,f3,f4,f5⟩:=hT.kid hnp hq';rw[z43 (by omega),List.mem_singleton] at hy;subst hy;rw[z43 (by omega)];refine⟨_,⟨nd3,f1,.inl ⟨rfl,PreD.cat hp hnp hk hq' hL'⟩⟩,?_⟩;rw[List.append_assoc];exact hl
   ·rw[if_neg (fun h=>hlt h.2)] at e4
    have hall:ndp.r.kids.take (k+1)=ndp.r.kids:=List.take_of_length_le (by omega);rw[hall] at hL';have hpp:T[nd.par]?=some ndp:=by rw[e3];exact hnp
    rw[lea_x e4 hpp (by omega),List.mem_singleton] at hy;subst hy;rw[lea_x e4 hpp (by omega)];refine⟨_,⟨ndp,hpp,.inr (.inl ⟨rfl,i0,_,_,by rw[e3];exact hp,der_4 hk hL',rfl⟩)⟩,?_⟩;rw[List.append_assoc];exact hl
 | alt hp hnp hk hq=>
   rename_i p k ndp
   obtain⟨nd2,e1,e2,e3,e4,e5⟩:=hT.kid hnp hq;rw[hn] at e1;injection e1 with e1;subst e1
   rw[if_neg (by omega)] at e4;have hpp:T[nd.par]?=some ndp:=by rw[e3];exact hnp
   rw[lea_x e4 hpp (by omega),List.mem_singleton] at hy;subst hy;rw[lea_x e4 hpp (by omega)];exact⟨_,⟨ndp,hpp,.inr (.inl ⟨rfl,i,_,_,by rw[e3];exact hp,der_5 hk (y5v (List.mem_of_getElem? e2) hdr),rfl⟩)⟩,hl⟩
 | grp hp hnp hk hq=>
   rename_i p ndp la
   obtain⟨nd2,e1,e2,e3,e4,e5⟩:=hT.kid hnp hq;rw[hn] at e1;injection e1 with e1;subst e1
   rw[if_neg (by omega)] at e4;have hpp:T[nd.par]?=some ndp:=by rw[e3];exact hnp
   have hks:ndp.r.kids=[nd.r]:=by
    have:=(hT.fine hnp).cases;simp only[hk] at this;simp at this;obtain⟨z,hz⟩:=this;rw[hz] at e2 ⊢;simp at e2;rw[e2]
   rw[lea_7 e4 hpp hk,List.mem_singleton] at hy;subst hy;rw[lea_7 e4 hpp hk];refine⟨_,⟨ndp,hpp,.inr (.inl ⟨rfl,i,_,_,by rw[e3];exact hp,der_7 (e:=l1) hk (by rw[hks];exact z8w.mpr hdr),rfl⟩)⟩,?_⟩;rw[y2x,List.append_assoc,y2x,List.nil_append];exact hl.mark
 | rep hp hnp hk ha hq ht hm hc=>
   rename_i p i0 c n ndp la lb
   obtain⟨nd2,e1,e2,e3,e4,e5⟩:=hT.kid hnp hq;rw[hn] at e1;injection e1 with e1;subst e1
   rw[if_neg (by omega)] at e4;have hpp:T[nd.par]?=some ndp:=by rw[e3];exact hnp
   have hks:ndp.r.kids=[nd.r]:=by
    obtain⟨⟨z,hz⟩,_⟩:=(hT.fine hnp).six hk;rw[hz] at e2 ⊢;simp at e2;rw[e2]
   rw[lea_6 e4 hpp hk] at hy ⊢;dsimp only at hy
   split at hy
   ·cases hy
   ·have ht':TimesD (DerL s ndp.r.kids) (n+1) i0 xi (l1++lb):=⟨i,lb,l1,ht,by rw[hks];exact z8w.mpr hdr,rfl⟩
    refine⟨(l1++lb)++la,y2f hT (x:=⟨nd.par,1,xi,xm,xc⟩) hpp hk ha (i:=i0) (c:=c) (n:=n+1) (by show PreD T s n0 p0 nd.par i0 c la;rw[e3];exact hp) (fun h=>?_) (fun h=>z7r hT hp hnp h) ht' ?_ ?_ y hy,?_⟩
    ·show xc=c
     rw[hc,if_neg (by simp[h])]
    ·unfold moreQ at hm
     simp only[Bool.or_eq_true,decide_eq_true_eq] at hm;omega
    ·by_cases hcq:cntQ ndp.r=true
     ·rw[if_pos hcq] at hc
      rw[hc,z57]
     ·exact y1u (hT.fine hnp) hk (by simpa using hcq) _ _
    ·rw[List.append_assoc];exact hl
theorem y8f (hT:TabF T) {x:Spo} {l l' le:Evs} {nd kd:Nd} {j:Nat} (h:HoldS T s n0 p0 x l) (hn:T[x.part]?=some nd) (hd:2≤x.done) (hq:T[nd.kids.headD 0]?=some kd) (hdr:Der s kd.r x.place j le)
  (ht:timeQ nd x j=true) (hl':SameE l' (le++l)):HoldS T s n0 p0 (timeN nd x j) l':=by
 obtain⟨l0,⟨nd',e1,h⟩,hl⟩:=h;rw[hn] at e1;injection e1 with e1;subst e1
 obtain⟨hk,ha,i,lp,l1,n,hp,h1,h2,h3,rfl⟩:nd.r.kind=6∧apartQ nd.r=true∧∃ i lp l1 n,PreD T s n0 p0 x.part i x.count lp∧TimesD (DerL s nd.r.kids) n i x.place l1∧(nd.r.hi<0∨(n:Int)≤nd.r.hi)∧x.done=2+min n (topM nd.r)∧l0=l1++lp:=by
  rcases h with ⟨h,_⟩ | ⟨h,_⟩ | ⟨_,h⟩
  ·omega
  ·omega
  ·exact h
 have hF:=hT.fine hn;obtain⟨⟨z,hz⟩,_⟩:=hF.six hk;obtain⟨nd2,f1,f2,_⟩:=hT.kid hn (z2c hT hn hz);rw[hq] at f1;injection f1 with f1;subst f1
 have hks:nd.r.kids=[kd.r]:=by rw[hz] at f2 ⊢;simp at f2;rw[f2]
 have e:x.done - 2=min n (topM nd.r):=by rw[h3,Nat.add_sub_cancel_left]
 unfold timeQ at ht;rw[Bool.and_eq_true,e,z55 hF hk] at ht;refine⟨(le++l1)++lp,⟨nd,hn,.inr (.inr ⟨by show 2≤2+oneM nd.r (x.done - 2);omega,hk,ha,i,lp,le++l1,n+1,hp,⟨x.place,l1,le,h1,by rw[hks];exact z8w.mpr hdr,rfl⟩,?_,?_,rfl⟩)⟩,?_⟩
 ·have:=ht.1
  unfold moreQ at this;simp only[Bool.or_eq_true,decide_eq_true_eq] at this;omega
 ·show 2+oneM nd.r (x.done - 2)=_
  rw[e,z57]
 ·rw[List.append_assoc]
  exact hl'.trans ((SameE.refl le).app hl)
theorem y82 (hT:TabF T) {x:Spo} {l:Evs} {nd:Nd} (h:HoldS T s n0 p0 x l) (hn:T[x.part]?=some nd) (hd:2≤x.done) (ht:nd.r.lo≤((x.done - 2:Nat):Int)):HoldS T s n0 p0 { x with done:=1 } l:=by
 obtain⟨l0,⟨nd',e1,h⟩,hl⟩:=h;rw[hn] at e1;injection e1 with e1;subst e1
 obtain⟨hk,ha,i,lp,l1,n,hp,h1,h2,h3,rfl⟩:nd.r.kind=6∧apartQ nd.r=true∧∃ i lp l1 n,PreD T s n0 p0 x.part i x.count lp∧TimesD (DerL s nd.r.kids) n i x.place l1∧(nd.r.hi<0∨(n:Int)≤nd.r.hi)∧x.done=2+min n (topM nd.r)∧l0=l1++lp:=by
  rcases h with ⟨h,_⟩ | ⟨h,_⟩ | ⟨_,h⟩
  ·omega
  ·omega
  ·exact h
 have hF:=hT.fine hn;have e:x.done - 2=min n (topM nd.r):=by rw[h3,Nat.add_sub_cancel_left]
 rw[e,z95 hF hk] at ht;exact⟨_,⟨nd,hn,.inr (.inl ⟨rfl,i,lp,l1,hp,der_6 hk h1 ht h2,rfl⟩)⟩,hl⟩
theorem y8e (hT:TabF T) {x:Spo} {l:Evs} {nd:Nd} (h:HoldS T s n0 p0 x l) (hn:T[n0]?=some nd) (hd:x.done=1) (hp:x.part=n0):∃ e,Der s nd.r p0 x.place e∧SameE l e:=by
 obtain⟨l0,⟨nd',e1,h⟩,hl⟩:=h;rw[hp,hn] at e1;injection e1 with e1;subst e1
 obtain⟨i,lp,l1,h1,h2,rfl⟩:∃ i lp l1,PreD T s n0 p0 x.part i x.count lp∧Der s nd.r i x.place l1∧l0=l1++lp:=by
  rcases h with ⟨h,_⟩ | ⟨_,h⟩ | ⟨h,_⟩
  ·omega
  ·exact h
  ·omega
 rw[hp] at h1;generalize x.count=c at h1
 have hroot:i=p0∧lp=[]:=by
  have up:∀ {p k:Nat} {ndp:Nd} {a b:Nat} {e:Evs},PreD T s n0 p0 p a b e→T[p]?=some ndp→ndp.kids[k]?=some n0→False:=fun {p k ndp a b e} q1 q2 q3=>by
   have:=z5o hT q1;obtain⟨_,_,_,_,_,h⟩:=hT.kid q2 q3;omega
  cases h1 with
  | root=>exact⟨rfl,rfl⟩
  | cat q1 q2 _ q3 _=>exact(up q1 q2 q3).elim
  | alt q1 q2 _ q3=>exact(up q1 q2 q3).elim
  | grp q1 q2 _ q3=>exact(up q1 q2 q3).elim
  | rep q1 q2 _ _ q3 _ _ _=>exact(up q1 q2 q3).elim
 obtain⟨rfl,rfl⟩:=hroot;exact⟨l1,h2,by simpa using hl⟩
theorem y5t {nd:Nd} (h:T[n0]?=some nd):HoldS T s n0 p0 ⟨n0,0,p0, -1,0⟩ []:=⟨[],⟨nd,h,.inl ⟨rfl,.root⟩⟩,SameE.refl _⟩
end
section
structure ShutC (T:List Nd) (s:Bs) (to n0 p0:Nat) (C:Spo→Prop):Prop where
 init:C ⟨n0,0,p0, -1,0⟩
 ent:∀ x nd,C x→T[x.part]?=some nd→x.done=0→∀ y∈(entN s to nd x).1,C y
 lea:∀ x nd,C x→T[x.part]?=some nd→x.done=1→x.part≠n0→∀ y∈(leaN T nd x).1,C y
 tim:∀ x nd kd j,C x→T[x.part]?=some nd→2≤x.done→T[nd.kids.headD 0]?=some kd→Way s true true kd.r x.place j→j≤to→timeQ nd x j=true→C (timeN nd x j)
 stp:∀ x nd,C x→T[x.part]?=some nd→2≤x.done→nd.r.lo≤((x.done - 2:Nat):Int)→C { x with done:=1 }
def TimesN (R:Nat→Nat→Prop) (lo:Int):Nat→Nat→Nat→Prop
 | 0,i,j=>i=j
 | n+1,i,j=>∃ m,TimesN R lo n i m∧R m j∧(m<j∨(n:Int)<lo)
theorem z75 {R:Nat→Nat→Prop} (hR:∀ i j,R i j→i≤j) (lo:Int):∀ {n i j:Nat},TimesW R n i j→∃ n',n'≤n∧(n'=n∨lo≤n')∧TimesN R lo n' i j
 | 0,_,_,h=>⟨0,Nat.le_refl _,.inl rfl,h⟩
 | n+1,i,j,h=>by
   obtain⟨m,h1,h2⟩:=z3d.mp h;obtain⟨n',e1,e2,e3⟩:=z75 hR lo h1;have:=hR _ _ h2;by_cases hc:m<j∨(n':Int)<lo
   ·exact⟨n'+1,by omega,by omega,m,e3,h2,hc⟩
   ·have:m=j:=by omega
    subst this;exact⟨n',by omega,by omega,e3⟩
theorem z64 {R:Nat→Nat→Prop} (hR:∀ i j,R i j→i≤j) {lo:Int}:∀ {n i j:Nat},TimesN R lo n i j→i≤j
 | 0,_,_,h=>Nat.le_of_eq h
 | _+1,_,_,⟨_,h1,h2,_⟩=>Nat.le_trans (z64 hR h1) (hR _ _ h2)
theorem z83 {s:Bs} {r:Re} {i j:Nat}:WayL s true true [r] i j ↔ Way s true true r i j:=by
 rw[WayL]
 constructor
 ·rintro⟨m,h1,h2⟩
  rw[WayL] at h2;subst h2;exact h1
 ·intro h
  exact⟨j,h,by rw[WayL]⟩
theorem y1w {s:Bs} {i j:Nat}:∀ {l:List Re},WayA s true true l i j→∃ (k:Nat) (r:Re),l[k]?=some r∧Way s true true r i j
 | [],h=>by rw[WayA] at h;exact h.elim
 | r::l,h=>by
   rw[WayA] at h
   rcases h with h | h
   ·exact⟨0,r,rfl,h⟩
   ·obtain⟨k,q,h1,h2⟩:=y1w h
    exact⟨k+1,q,by rw[List.getElem?_cons_succ];exact h1,h2⟩
def mvr (m:Int) (i k:Nat):Int:=if k=i then m else -1
theorem y47 (m:Int) {i j k:Nat} (h1:i≤j) (h2:j≤k):mvr (mvr m i j) j k=mvr m i k:=by unfold mvr;(repeat' split) <;> omega
variable {T:List Nd} {s:Bs} {to n0 p0:Nat} {C:Spo→Prop}
theorem y8k (hT:TabF T) (hC:ShutC T s to n0 p0 C) (r:Re):∀ (q:Nat) (nd:Nd),T[q]?=some nd→nd.r=r→∀ (i k:Nat) (m:Int) (c:Nat),n0≤q→C ⟨q,0,i,m,c⟩→m<q→(0<cntE r→c=0)→
  Way s true true r i k→k≤to→C ⟨q,1,k,mvr m i k,c⟩:=by
 induction r using Re.ind with
 | h kk S ks lo hi n ih=>
   intro q nd hq hr i k m c hn0 hc0 hm hcc hw hk;have hF:=hT.fine hq;have hlen:=hT.len hq;have hkids:nd.r.kids=ks:=by rw[hr];rfl
   have hkind:nd.r.kind=kk:=by rw[hr];rfl
   have hlo:nd.r.lo=lo:=by rw[hr];rfl
   have hhi:nd.r.hi=hi:=by rw[hr];rfl
   have hcnt:cntE nd.r=cntE (.mk kk S ks lo hi n):=by rw[hr]
   have hent:=hC.ent _ nd hc0 hq rfl;have ikle:=z7v s true true _ _ _ hw
   have kid:∀ {j z:Nat},nd.kids[j]?=some z→∃ kd,T[z]?=some kd∧ks[j]?=some kd.r∧kd.par=q∧kd.nx=(if nd.r.kind=4∧j+1<nd.kids.length then nd.kids.getD (j+1) 0 else 0)∧q<z∧
     ∀ (x y:Nat) (mx:Int) (cx:Nat),C ⟨z,0,x,mx,cx⟩→mx<z→(0<cntE kd.r→cx=0)→Way s true true kd.r x y→y≤to→C ⟨z,1,y,mvr mx x y,cx⟩∧∀ w∈(leaN T kd ⟨z,1,y,mvr mx x y,cx⟩).1,C w:=fun {j z} hz=>by
    obtain⟨kd,e1,e2,e3,e4,e5⟩:=hT.kid hq hz;rw[hkids] at e2;refine⟨kd,e1,e2,e3,e4,e5,fun x y mx cx g1 g2 g3 g4 g5=>?_⟩;have:=ih kd.r (List.mem_of_getElem? e2) z kd e1 rfl x y mx cx (by omega) g1 g2 g3 g4 g5;exact⟨this,hC.lea _ kd this e1 rfl (by show z≠n0;omega)⟩
   have ckid:∀ {j:Nat} {x:Re},ks[j]?=some x→cntE x≤cntE nd.r:=fun {j x} h=>by
    have:=z8d (List.mem_of_getElem? h);rw[z4n nd.r,hkids];omega
   rw[Way] at hw
   rcases hF.cases with ⟨h,_⟩ | ⟨h,_⟩ | ⟨h,_⟩ | ⟨h,_⟩ | ⟨h,a,b,lk,hrk⟩ | ⟨h,a,b,lk,hrk⟩ | ⟨h,⟨a,hrk⟩,_⟩ | ⟨h,a,hrk⟩
   ·have hk0:kk=0:=by omega
    subst hk0;simp only[if_true] at hw;subst hw;rw[ent_x (.inl h),if_neg (by omega)] at hent;have:=hent _ (List.mem_singleton.2 rfl);unfold mvr;rw[if_pos rfl];exact this
   ·have hk0:kk=1:=by omega
    subst hk0;simp only[if_neg (show ¬ (1:Int)=0 by decide),if_true] at hw;obtain⟨ch,g1,g2,rfl⟩:=hw
    rw[ent_1 h,if_pos (by
     refine⟨by show i<to;omega,?_⟩;unfold hasQ;rw[hr];show (match s[i]? with | none=>false | some c=>mem S c.toNat)=true;rw[g1];exact g2)] at hent
    have:=hent _ (List.mem_singleton.2 rfl);unfold mvr;rw[if_neg (by omega)];exact this
   ·have hk0:kk=2:=by omega
    subst hk0;simp at hw;obtain⟨rfl,rfl⟩:=hw;rw[ent_x (.inr (.inl h)),if_neg (by simp[h])] at hent;have:=hent _ (List.mem_singleton.2 rfl);unfold mvr;rw[if_pos rfl];exact this
   ·have hk0:kk=3:=by omega
    subst hk0;simp at hw;obtain⟨rfl,rfl⟩:=hw;rw[ent_x (.inr (.inr h)),if_neg (by simp[h])] at hent;have:=hent _ (List.mem_singleton.2 rfl);unfold mvr;rw[if_pos rfl];exact this
   ·have hk0:kk=4:=by omega
    subst hk0;simp at hw;rw[ent_4 h] at hent;have h0:=hent _ (List.mem_singleton.2 rfl)
    have row:∀ (d j x:Nat) (mx:Int) (z:Nat),j+d=ks.length→nd.kids[j]?=some z→C ⟨z,0,x,mx,c⟩→mx<q→WayL s true true (ks.drop j) x k→C ⟨q,1,k,mvr mx x k,c⟩:=by
     intro d
     induction d with
     | zero=>
       intro j x mx z hj hz;have:=(List.getElem?_eq_some_iff.mp hz).1;rw[hlen,hkids] at this;omega
     | succ d ihd=>
       intro j x mx z hj hz hcz hmx hwl;obtain⟨kd,e1,e2,e3,e4,e5,e6⟩:=kid hz;obtain⟨hjl,ej⟩:=List.getElem?_eq_some_iff.mp e2;rw[List.drop_eq_getElem_cons hjl,ej,WayL] at hwl;obtain⟨y,g1,g2⟩:=hwl;have hxy:=z7v s true true _ _ _ g1
       have hyk:y≤k:=by
        have:=z7v s true true (.mk 4 none4 (ks.drop (j+1)) 0 0 0) y k (by rw[Way];simpa using g2);exact this
       obtain⟨f1,f2⟩:=e6 x y mx c hcz (by omega) (fun hh=>hcc (by rw[←hcnt];have:=ckid e2;omega)) g1 (by omega);by_cases hlt:j+1<nd.kids.length
       ·rw[if_pos ⟨h,hlt⟩] at e4
        have hz':nd.kids[j+1]?=some kd.nx:=by rw[e4,List.getD_eq_getElem?_getD,List.getElem?_eq_getElem hlt];rfl
        obtain⟨kd',_,_,_,_,h5,_⟩:=kid hz';rw[z43 (by omega)] at f2;have:=ihd (j+1) y (mvr mx x y) kd.nx (by omega) hz' (f2 _ (List.mem_singleton.2 rfl)) (by unfold mvr;split <;> omega) g2;rw[y47 _ hxy hyk] at this;exact this
       ·rw[if_neg (fun h=>hlt h.2)] at e4
        have hd:ks.drop (j+1)=[]:=List.drop_eq_nil_of_le (by rw[←hkids,←hlen];omega);rw[hd,WayL] at g2;subst g2;rw[lea_x e4 (by rw[e3];exact hq) (by omega)] at f2;have:=f2 _ (List.mem_singleton.2 rfl);rw[e3] at this;exact this
    have hz:=z2c hT hq hrk;exact row ks.length 0 i m _ (by omega) hz h0 hm (by rw[List.drop_zero];exact hw)
   ·have hk0:kk=5:=by omega
    subst hk0;simp at hw;rw[ent_5 h] at hent;obtain⟨j,x,g1,g2⟩:=y1w hw;have hjl:j<nd.kids.length:=by rw[hlen,hkids];exact(List.getElem?_eq_some_iff.mp g1).1
    have hz:nd.kids[j]?=some nd.kids[j]:=List.getElem?_eq_getElem hjl;obtain⟨kd,e1,e2,e3,e4,e5,e6⟩:=kid hz;rw[g1] at e2;injection e2 with e2;subst e2
    have h0:=hent _ (List.mem_map.2 ⟨_,List.mem_of_getElem? hz,rfl⟩);obtain⟨f1,f2⟩:=e6 i k m c h0 (by omega) (fun hh=>hcc (by rw[←hcnt];have:=ckid g1;omega)) g2 hk;rw[if_neg (by omega)] at e4;rw[lea_x e4 (by rw[e3];exact hq) (by omega)] at f2;have:=f2 _ (List.mem_singleton.2 rfl);rw[e3] at this;exact this
   ·have hk0:kk=6:=by omega
    subst hk0;simp at hw;obtain⟨n1,w1,w2,w3⟩:=hw;rw[hkids] at hrk;subst hrk;have hle:∀ i j,WayL s true true [a] i j→i≤j:=fun i j h=>z7v s true true _ _ _ (z83.mp h)
    obtain⟨n2,v1,v2,v3⟩:=z75 hle lo w3;have hz:=z2c hT hq hkids;obtain⟨kd,e1,e2,e3,e4,e5,e6⟩:=kid hz;simp at e2;rw[if_neg (by omega)] at e4;rw[ent_6 h] at hent
    have hmore:∀ {n':Nat},n'+1≤n2→moreQ nd.r n'=true:=fun {n'} hn'=>by
     unfold moreQ;rw[hhi];simp only[Bool.or_eq_true,decide_eq_true_eq];omega
    by_cases ha:apartQ nd.r=true
    ·rw[if_pos ha] at hent
     have h0:=hent _ (List.mem_singleton.2 rfl)
     have run:∀ n' x,n'≤n2→TimesN (WayL s true true [a]) lo n' i x→x≤to→C ⟨q,2+min n' (topM nd.r),x,mvr m i x,c⟩:=by
      intro n'
      induction n' with
      | zero=>
        intro x _ hx _;rw[TimesN] at hx;subst hx;unfold mvr;rw[if_pos rfl,Nat.zero_min];exact h0
      | succ n' ihn=>
        intro x hn' hx hxt;obtain⟨y,g1,g2,g3⟩:=hx;have hyx:=hle _ _ g2;have iy:=z64 hle g1;have h1:=ihn y (by omega) g1 (by omega)
        have h2:=hC.tim _ nd kd x h1 hq (by show 2≤2+_;omega) e1 (by rw[←e2];exact z83.mp g2) hxt (by
         unfold timeQ;show (moreQ nd.r (2+min n' (topM nd.r) - 2) && (decide (y<x) || decide (((2+min n' (topM nd.r) - 2:Nat):Int)<nd.r.lo)))=true;rw[Nat.add_sub_cancel_left,z55 hF h,hmore hn',Bool.true_and,Bool.or_eq_true,decide_eq_true_eq,decide_eq_true_eq,hlo];omega)
        unfold timeN at h2;dsimp only at h2;rw[Nat.add_sub_cancel_left,z57] at h2;have:(if y<x then -1 else mvr m i y)=mvr m i x:=by unfold mvr;split <;> split <;> (try split) <;> omega
        rw[this] at h2;exact h2
     have h1:=run n2 k (Nat.le_refl _) v3 hk
     have h2:=hC.stp _ nd h1 hq (by show 2≤2+_;omega) (by
      show nd.r.lo≤((2+min n2 (topM nd.r) - 2:Nat):Int);rw[Nat.add_sub_cancel_left,z95 hF h,hlo];omega)
     exact h2
    ·have ha':apartQ nd.r=false:=by simpa using ha
     rw[if_neg ha] at hent;have hc':cntQ nd.r=true→c=0:=fun h=>hcc (by rw[←hcnt,z4n,if_pos h];omega)
     have run:∀ n' x,n'≤n2→TimesN (WayL s true true [a]) lo n' i x→x≤to→(lo≤n'→C ⟨q,1,x,mvr m i x,c⟩)∧
       (moreQ nd.r n'=true→C ⟨nd.kids.headD 0,0,x,if lo≤n' then q else mvr m i x,if cntQ nd.r=true then min n' (topM nd.r) else c⟩):=by
      have out:∀ (x n' d cc:Nat),(∀ y∈repN nd ⟨q,d,x,mvr m i x,cc⟩ (min n' (topM nd.r)),C y)→(cntQ nd.r=false→cc=c)→(lo≤n'→C ⟨q,1,x,mvr m i x,c⟩)∧
        (moreQ nd.r n'=true→C ⟨nd.kids.headD 0,0,x,if lo≤n' then q else mvr m i x,if cntQ nd.r=true then min n' (topM nd.r) else c⟩):=fun x n' d cc hy hcq=>by
       unfold repN at hy;refine⟨fun h1=>?_,fun h1=>?_⟩
       ·have:=hy (endN nd ⟨q,d,x,mvr m i x,cc⟩) (by rw[if_pos (by rw[z95 hF h,hlo];exact h1)];simp)
        unfold endN at this;dsimp only at this
        have e:(if cntQ nd.r=true then 0 else cc)=c:=by
         split
         ·rename_i h2;exact(hc' h2).symm
         ·rename_i h2;exact hcq (by simpa using h2)
        rw[e] at this;exact this
       ·have:=hy (kidN nd ⟨q,d,x,mvr m i x,cc⟩ (min n' (topM nd.r))) (by rw[if_pos (show moreQ nd.r (min n' (topM nd.r))=true by rw[z55 hF h];exact h1)];simp)
        unfold kidN at this;dsimp only at this
        have e:(if cntQ nd.r=true then min n' (topM nd.r) else cc)=(if cntQ nd.r=true then min n' (topM nd.r) else c):=by
         split
         ·rfl
         ·rename_i h2;exact hcq (by simpa using h2)
        have e':(if nd.r.lo≤((min n' (topM nd.r):Nat):Int) then (q:Int) else mvr m i x)=if lo≤n' then (q:Int) else mvr m i x:=by
         have hml:=z95 hF h n';rw[hlo] at hml ⊢;by_cases h2:lo≤(n':Int)
         ·rw[if_pos (hml.mpr h2),if_pos h2]
         ·rw[if_neg (fun h=>h2 (hml.mp h)),if_neg h2]
        rw[e,e'] at this;exact this
      intro n'
      induction n' with
      | zero=>
        intro x _ hx _;rw[TimesN] at hx;subst hx;refine out i 0 0 c ?_ (fun _=>rfl);unfold mvr;rw[if_pos rfl,Nat.zero_min];exact hent
      | succ n' ihn=>
        intro x hn' hx hxt;obtain⟨y,g1,g2,g3⟩:=hx;have hyx:=hle _ _ g2;have iy:=z64 hle g1;have h1:=(ihn y (by omega) g1 (by omega)).2 (hmore hn')
        obtain⟨f1,f2⟩:=e6 y x _ _ h1 (by unfold mvr;split <;> (try split) <;> omega) (fun hh=>by
         split
         ·rename_i h2
          unfold apartQ at ha';simp only[h2,Bool.true_and,decide_eq_false_iff_not] at ha';rw[hkids] at ha';have:=z8d (x:=kd.r) (l:=[a]) (by rw[←e2];simp);omega
         ·exact hcc (by rw[←hcnt];have:=ckid (j:=0) (x:=kd.r) (by rw[←e2];rfl);omega)) (by rw[←e2];exact z83.mp g2) hxt
        have hmv:mvr (if lo≤(n':Int) then (q:Int) else mvr m i y) y x=mvr m i x:=by
         unfold mvr
         split <;> split <;> (try split) <;> (try split) <;> omega
        rw[hmv] at f2;rw[lea_6 e4 (by rw[e3];exact hq) h] at f2;dsimp only at f2;rw[if_neg (by rw[e3];unfold mvr;split <;> omega),e3] at f2
        have hone:oneM nd.r (if cntQ nd.r=true then min n' (topM nd.r) else c)=min (n'+1) (topM nd.r):=by
         split
         ·exact z57 n'
         ·rename_i h2;exact y1u hF h (by simpa using h2) c n'
        rw[hone] at f2;exact out x (n'+1) 1 _ f2 (fun h2=>by rw[if_neg (by simp[h2])])
     exact(run n2 k (Nat.le_refl _) v3 hk).1 (by omega)
   ·have hk0:kk=7:=by omega
    subst hk0;simp at hw;rw[hkids] at hrk;subst hrk;rw[ent_7 h] at hent;have hz:=z2c hT hq hkids;obtain⟨kd,e1,e2,e3,e4,e5,e6⟩:=kid hz;simp at e2;rw[if_neg (by omega)] at e4;have h0:=hent _ (List.mem_singleton.2 rfl);obtain⟨f1,f2⟩:=e6 i k m c h0 (by omega) (fun hh=>hcc (by rw[←hcnt];have:=ckid (j:=0) (x:=kd.r) (by rw[←e2];rfl);omega)) (by rw[←e2];exact z83.mp hw) hk;rw[lea_7 e4 (by rw[e3];exact hq) h] at f2;have:=f2 _ (List.mem_singleton.2 rfl);rw[e3] at this;exact this
theorem y8w (hT:TabF T) (hC:ShutC T s to n0 p0 C) {nd:Nd} (hn:T[n0]?=some nd) {k:Nat} (hw:Way s true true nd.r p0 k) (hk:k≤to):C ⟨n0,1,k, -1,0⟩:=by
 have:=y8k hT hC nd.r n0 nd hn rfl p0 k (-1) 0 (Nat.le_refl _) hC.init (by omega) (fun _=>rfl) hw hk;unfold mvr at this;rw[ite_self] at this;exact this
end
section
inductive Up (T:List Nd) (n0:Nat):Nat→Nat→Prop
 | one {q:Nat} {nd:Nd}:T[q]?=some nd→q≠n0→Up T n0 q nd.par
 | more {q m:Nat} {nd:Nd}:T[q]?=some nd→q≠n0→Up T n0 nd.par m→Up T n0 q m
def MvOk (T:List Nd) (n0:Nat) (x:Spo):Prop:=x.mover= -1∨∃ (m:Nat) (md:Nd),x.mover=(m:Int)∧T[m]?=some md∧md.r.kind=6∧Up T n0 x.part m
structure BdS (T:List Nd) (lim n0:Nat) (x:Spo):Prop where
 part:x.part<T.length
 ge:n0≤x.part
 done:x.done≤10
 place:x.place≤lim
 count:x.count≤8
 mv:MvOk T n0 x
variable {T:List Nd} {s:Bs} {lim n0 p0:Nat}
theorem y04 (hT:TabF T) {p i c:Nat} {l:Evs} (h:PreD T s n0 p0 p i c l):c≤8:=by
 induction h with
 | root=>omega
 | cat _ _ _ _ _ ih=>exact ih
 | alt _ _ _ _ ih=>exact ih
 | grp _ _ _ _ ih=>exact ih
 | rep _ h1 hk _ _ _ _ hc ih=>
   have:=z5l (hT.fine h1) hk;rw[hc]
   split <;> omega
theorem x19 (hT:TabF T) {x:Spo} {l:Evs} (h:HoldS T s n0 p0 x l):x.part<T.length∧n0≤x.part∧x.done≤10∧x.count≤8:=by
 obtain⟨l0,⟨nd,hn,h⟩,_⟩:=h;have hp:x.part<T.length:=(List.getElem?_eq_some_iff.mp hn).1
 rcases h with ⟨h1,h2⟩ | ⟨h1,i,l0,l1,h2,_⟩ | ⟨h1,hk,_,i,l0,l1,n,h2,_,_,h3,_⟩
 ·exact⟨hp,z5o hT h2,by omega,y04 hT h2⟩
 ·exact⟨hp,z5o hT h2,by omega,y04 hT h2⟩
 ·have:=z5l (hT.fine hn) hk
  exact⟨hp,z5o hT h2,by omega,y04 hT h2⟩
theorem y19 (hT:TabF T) {x:Spo} {nd:Nd} {k q:Nat} (hn:T[x.part]?=some nd) (hge:n0≤x.part) (hq:nd.kids[k]?=some q) (h:MvOk T n0 x) (d i c:Nat):MvOk T n0 ⟨q,d,i,x.mover,c⟩:=by
 obtain⟨kd,e1,_,e3,_,e5⟩:=hT.kid hn hq
 rcases h with h | ⟨m,md,h1,h2,h3,h4⟩
 ·exact .inl h
 ·exact .inr ⟨m,md,h1,h2,h3,.more e1 (by show q≠n0;omega) (by rw[e3];exact h4)⟩
theorem x0s (hT:TabF T) {x:Spo} {nd:Nd} (hF:Fine nd.r) (hn:T[x.part]?=some nd) (hge:n0≤x.part) (hk:nd.r.kind=6) (h:MvOk T n0 x) (n:Nat):∀ y∈repN nd x n,MvOk T n0 y∧y.place=x.place:=by
 obtain⟨⟨r1,hr1⟩,_⟩:=hF.six hk;intro y hy;unfold repN at hy;rw[List.mem_append] at hy
 rcases hy with hy | hy
 ·split at hy
  ·rw[List.mem_singleton] at hy;subst hy
   refine⟨?_,rfl⟩
   rcases h with h | ⟨m,md,h1,h2,h3,h4⟩
   ·exact .inl h
   ·exact .inr ⟨m,md,h1,h2,h3,h4⟩
  ·cases hy
 ·split at hy
  ·rw[List.mem_singleton] at hy;subst hy
   refine⟨?_,rfl⟩;have hq:=z2c hT hn hr1;by_cases hl:nd.r.lo≤n
   ·obtain⟨kd,e1,_,e3,_,e5⟩:=hT.kid hn hq
    refine .inr ⟨x.part,nd,by unfold kidN;dsimp only;rw[if_pos hl],hn,hk,?_⟩;have:=Up.one (n0:=n0) e1 (by omega);rw[e3] at this;exact this
   ·have:=y19 hT hn hge hq h 0 x.place (if cntQ nd.r=true then n else x.count)
    unfold kidN;rw[if_neg hl];exact this
  ·cases hy
theorem x0f (hT:TabF T) {x:Spo} {nd:Nd} (hn:T[x.part]?=some nd) (hge:n0≤x.part) (hpl:x.place≤lim) (h:MvOk T n0 x):∀ y∈(entN s lim nd x).1,MvOk T n0 y∧y.place≤lim:=by
 have hF:=hT.fine hn
 have same:∀ {d:Nat},MvOk T n0 { x with done:=d }:=fun {d}=>by
  rcases h with h | ⟨m,md,h1,h2,h3,h4⟩
  ·exact .inl h
  ·exact .inr ⟨m,md,h1,h2,h3,h4⟩
 intro y hy
 rcases hF.cases with ⟨hk,_⟩ | ⟨hk,_⟩ | ⟨hk,_⟩ | ⟨hk,_⟩ | ⟨hk,a,b,lk,hr⟩ | ⟨hk,a,b,lk,hr⟩ | ⟨hk,⟨a,hr⟩,_⟩ | ⟨hk,a,hr⟩
 ·rw[ent_x (.inl hk)] at hy;dsimp only at hy
  split at hy
  ·cases hy
  ·rw[List.mem_singleton] at hy;subst hy;exact⟨same,hpl⟩
 ·rw[ent_1 hk] at hy;dsimp only at hy
  split at hy
  ·rename_i h1
   rw[List.mem_singleton] at hy;subst hy;exact⟨.inl rfl,by dsimp only;omega⟩
  ·cases hy
 ·rw[ent_x (.inr (.inl hk))] at hy;dsimp only at hy
  split at hy
  ·cases hy
  ·rw[List.mem_singleton] at hy;subst hy;exact⟨same,hpl⟩
 ·rw[ent_x (.inr (.inr hk))] at hy;dsimp only at hy
  split at hy
  ·cases hy
  ·rw[List.mem_singleton] at hy;subst hy;exact⟨same,hpl⟩
 ·rw[ent_4 hk] at hy
  rw[List.mem_singleton] at hy;subst hy;exact⟨y19 hT hn hge (z2c hT hn hr) h _ _ _,hpl⟩
 ·rw[ent_5 hk] at hy;dsimp only at hy
  obtain⟨q,hq,rfl⟩:=List.mem_map.1 hy;obtain⟨k,hq⟩:=List.getElem?_of_mem hq;exact⟨y19 hT hn hge hq h _ _ _,hpl⟩
 ·rw[ent_6 hk] at hy;dsimp only at hy
  split at hy
  ·rw[List.mem_singleton] at hy;subst hy;exact⟨same,hpl⟩
  ·obtain⟨h1,h2⟩:=x0s hT hF hn hge hk h 0 y hy
   exact⟨h1,by omega⟩
 ·rw[ent_7 hk] at hy
  rw[List.mem_singleton] at hy;subst hy;exact⟨y19 hT hn hge (z2c hT hn hr) h _ _ _,hpl⟩
theorem x4j (hT:TabF T) {x:Spo} {nd:Nd} (hn:T[x.part]?=some nd) (hpar:∃ pd,n0≤nd.par∧T[nd.par]?=some pd) (hnx:nd.nx≠0→∃ xd,T[nd.nx]?=some xd∧xd.par=nd.par∧n0<nd.nx) (hpl:x.place≤lim) (h:MvOk T n0 x):
  ∀ y∈(leaN T nd x).1,MvOk T n0 y∧y.place≤lim:=by
 obtain⟨pd,hge,hpd⟩:=hpar;intro y hy;by_cases hx:nd.nx=0
 ·have up:(∀ (m:Nat) (md:Nd),x.mover=(m:Int)→T[m]?=some md→md.r.kind=6→m≠nd.par)→∀ d c,MvOk T n0 ⟨nd.par,d,x.place,x.mover,c⟩:=fun hm d c=>by
   rcases h with h | ⟨m,md,h1,h2,h3,h4⟩
   ·exact .inl h
   ·refine .inr ⟨m,md,h1,h2,h3,?_⟩
    have hmne:=hm m md h1 h2 h3
    cases h4 with
    | one g1 g2=>rw[hn] at g1;injection g1 with g1;subst g1;exact absurd rfl hmne
    | more g1 g2 g3=>rw[hn] at g1;injection g1 with g1;subst g1;exact g3
  by_cases h7:pd.r.kind=7
  ·rw[lea_7 hx hpd h7,List.mem_singleton] at hy;subst hy
   exact⟨up (fun m md e1 e2 e3 e=>by subst e;rw[hpd] at e2;injection e2 with e2;subst e2;omega) _ _,hpl⟩
  ·by_cases h6:pd.r.kind=6
   ·rw[lea_6 hx hpd h6] at hy;dsimp only at hy
    split at hy
    ·cases hy
    ·rename_i hmv
     obtain⟨g1,g2⟩:=x0s hT (hT.fine hpd) (x:=⟨nd.par,x.done,x.place,x.mover,x.count⟩) hpd hge h6 (up (fun m md e1 e2 e3 e=>hmv (by rw[e1,e])) _ _) _ y hy;exact⟨g1,by rw[g2];exact hpl⟩
   ·rw[lea_x hx hpd ⟨h7,h6⟩,List.mem_singleton] at hy;subst hy
    exact⟨up (fun m md e1 e2 e3 e=>by subst e;rw[hpd] at e2;injection e2 with e2;subst e2;exact h6 e3) _ _,hpl⟩
 ·obtain⟨xd,g1,g2,g3⟩:=hnx hx
  rw[z43 hx,List.mem_singleton] at hy;subst hy;refine⟨?_,hpl⟩
  rcases h with h | ⟨m,md,h1,h2,h3,h4⟩
  ·exact .inl h
  ·refine .inr ⟨m,md,h1,h2,h3,?_⟩
   cases h4 with
   | one q1 q2=>
     rw[hn] at q1;injection q1 with q1;subst q1
     have:=Up.one (n0:=n0) g1 (by omega);rw[g2] at this;exact this
   | more q1 q2 q3=>
     rw[hn] at q1;injection q1 with q1;subst q1
     exact .more g1 (by show nd.nx≠n0;omega) (by rw[g2];exact q3)
theorem x34 {x:Spo} (h:MvOk T n0 x) (hp:x.part=n0):x.mover= -1:=by
 rcases h with h | ⟨m,md,h1,h2,h3,h4⟩
 ·exact h
 ·rw[hp] at h4
  cases h4 with
  | one _ g=>exact absurd rfl g
  | more _ g _=>exact absurd rfl g
end
def codeS (N lim:Nat) (x:Spo):Nat:=(((x.part * 11+x.done) * (lim+1)+x.place) * (N+1)+(x.mover+1).toNat) * 9+x.count
def topS (N lim:Nat):Nat:=N * 11 * (lim+1) * (N+1) * 9
theorem y1t {a b n m:Nat} (ha:a<n) (hb:b<m):a * m+b<n * m:=by
 have:(a+1) * m≤n * m:=Nat.mul_le_mul_right _ ha;rw[Nat.add_mul] at this;omega
theorem z8m {a b a' b' m:Nat} (hb:b<m) (hb':b'<m) (h:a * m+b=a' * m+b'):a=a'∧b=b':=by
 have hm:0<m:=by omega
 have e1:a=a':=by
  have h1:(a * m+b) / m=a:=by rw[Nat.mul_comm,Nat.mul_add_div hm,Nat.div_eq_of_lt hb];omega
  have h2:(a' * m+b') / m=a':=by rw[Nat.mul_comm,Nat.mul_add_div hm,Nat.div_eq_of_lt hb'];omega
  rw[←h1,←h2,h]
 subst e1;exact⟨rfl,by omega⟩
theorem z50 {T:List Nd} {lim n0:Nat} {x:Spo} (h:BdS T lim n0 x): -1≤x.mover∧x.mover<T.length:=by
 rcases h.mv with h | ⟨m,md,h1,h2,_⟩
 ·omega
 ·have:=(List.getElem?_eq_some_iff.mp h2).1;omega
theorem x1x {T:List Nd} {lim n0:Nat} {x:Spo} (h:BdS T lim n0 x):codeS T.length lim x<topS T.length lim:=by
 have hm:=z50 h;unfold codeS topS;refine y1t (y1t (y1t (y1t h.part (by have:=h.done;omega)) (by have:=h.place;omega)) (by omega)) (by have:=h.count;omega)
theorem y77 {T:List Nd} {lim n0:Nat} {x y:Spo} (h:BdS T lim n0 x) (h':BdS T lim n0 y) (e:codeS T.length lim x=codeS T.length lim y):x=y:=by
 have hm:=z50 h;have hm':=z50 h';unfold codeS at e;obtain⟨e,e5⟩:=z8m (by have:=h.count;omega) (by have:=h'.count;omega) e;obtain⟨e,e4⟩:=z8m (by omega) (by omega) e;obtain⟨e,e3⟩:=z8m (by have:=h.place;omega) (by have:=h'.place;omega) e;obtain⟨e1,e2⟩:=z8m (by have:=h.done;omega) (by have:=h'.done;omega) e;obtain⟨x1,x2,x3,x4,x5⟩:=x;obtain⟨y1,y2,y3,y4,y5⟩:=y;simp only at e1 e2 e3 e4 e5 hm hm';have:x4=y4:=by omega
 subst e1 e2 e3 this e5
 rfl
noncomputable def leftP (P:Nat→Prop):Nat→Nat
 | 0=>0
 | n+1=>leftP P n+@ite _ (P n) (Classical.propDecidable _) 0 1
theorem y0x {P P':Nat→Prop} (h:∀ z,P z→P' z):∀ n,leftP P' n≤leftP P n
 | 0=>Nat.le_refl _
 | n+1=>by
   rw[leftP,leftP];have:=y0x h n;by_cases h1:P n
   ·rw[if_pos h1,if_pos (h n h1)];omega
   ·rw[if_neg h1];split <;> omega
theorem y5e {P P':Nat→Prop} (h:∀ z,P z→P' z) {z:Nat} (h1:¬ P z) (h2:P' z):∀ {n:Nat},z<n→leftP P' n<leftP P n
 | n+1,hz=>by
   rw[leftP,leftP];by_cases hzn:z=n
   ·subst hzn
    rw[if_pos h2,if_neg h1];have:=y0x h z;omega
   ·have:=y5e h h1 h2 (n:=n) (by omega)
    by_cases h3:P n
    ·rw[if_pos h3,if_pos (h n h3)];omega
    ·rw[if_neg h3];split <;> omega
theorem y5u (P:Nat→Prop):∀ n,leftP P n≤n
 | 0=>Nat.le_refl _
 | n+1=>by rw[leftP];have:=y5u P n;split <;> omega
noncomputable def leftS (N lim:Nat) (C:Spo→Prop):Nat:=leftP (fun z=>∃ x,C x∧codeS N lim x=z) (topS N lim)
theorem y7v {T:List Nd} {lim n0:Nat} {C:Spo→Prop} {x:Spo} (hC:∀ y,C y→BdS T lim n0 y) (hx:BdS T lim n0 x) (hn:¬ C x):leftS T.length lim (fun y=>C y∨y=x)<leftS T.length lim C:=by
 refine y5e (fun z ⟨y,h1,h2⟩=>⟨y,.inl h1,h2⟩) (z:=codeS T.length lim x) ?_ ⟨x,.inr rfl,rfl⟩ (x1x hx);rintro⟨y,h1,h2⟩;rw[y77 (hC y h1) hx h2] at h1;exact hn h1
theorem z6f {N lim:Nat} {C C':Spo→Prop} (h:∀ x,C x ↔ C' x):leftS N lim C=leftS N lim C':=by
 have:C=C':=funext fun x=>propext (h x)
 rw[this]
theorem y29:∀ {n:Nat} {l:List Nat},l.Nodup→(∀ x∈l,x≤n)→l.length≤n+1
 | 0,l,hn,h=>by
   match l,hn,h with
   | [],_,_=>simp
   | [a],_,_=>simp
   | a::b::l,hn,h=>
     have h1:=h a (by simp);have h2:=h b (by simp);rw[List.nodup_cons] at hn;exact absurd (by simp;left;omega) hn.1
 | n+1,l,hn,h=>by
   have h1:(l.erase (n+1)).length≤n+1:=y29 (hn.erase _) fun x hx=>by
    have hx2:=(hn.mem_erase_iff).1 hx;have:=h x hx2.2;have:=hx2.1;omega
   have h2:=List.length_erase (a:=n+1) (l:=l)
   split at h2 <;> omega
end Go.Proofs.YtejgbpbljdhndaaDoor
