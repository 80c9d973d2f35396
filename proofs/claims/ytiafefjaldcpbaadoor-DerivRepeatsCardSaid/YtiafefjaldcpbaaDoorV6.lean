import Derived.Test.YtiafefjaldcpbaaDoorV1
namespace Go.Proofs.YtiafefjaldcpbaaDoor
open Go Go.RowKit
inductive Fin (T:List Nd) (s:Bs) (b e:Bool):Nat→List Nat→Nat→Nat→Prop
 | root {l:List Nat} {i:Nat}:Fin T s b e 0 l i i
 | next {n:Nat} {x y:Nd} {l:List Nat} {i k j:Nat}:n≠0→T[n]?=some x→x.nx≠0→T[x.nx]?=some y→Way s b e y.r i k→Fin T s b e x.nx l k j→Fin T s b e n l i j
 | up {n:Nat} {x p:Nd} {l:List Nat} {i j:Nat}:n≠0→T[n]?=some x→x.nx=0→T[x.par]?=some p→p.cn=0→Fin T s b e x.par l i j→Fin T s b e n l i j
 | again {n:Nat} {x p:Nd} {l:List Nat} {i k j:Nat}:n≠0→T[n]?=some x→x.nx=0→T[x.par]?=some p→p.cn=0→p.r.kind=6→p.r.hi<0→Way s b e x.r i k→Fin T s b e n l k j→Fin T s b e n l i j
 | done {n c:Nat} {x p:Nd} {l:List Nat} {i j:Nat}:n≠0→T[n]?=some x→x.nx=0→T[x.par]?=some p→p.cn≠0→p.r.lo≤(c:Int)+1→(p.r.hi<0∨(c:Int)+1≤p.r.hi)→Fin T s b e x.par l i j→Fin T s b e n (c::l) i j
 | more {n c:Nat} {x p:Nd} {l:List Nat} {i k j:Nat}:n≠0→T[n]?=some x→x.nx=0→T[x.par]?=some p→p.cn≠0→(p.r.hi<0∨(c:Int)+1<p.r.hi)→Way s b e x.r i k→Fin T s b e n ((c+1)::l) k j→Fin T s b e n (c::l) i j
def Cnt (T:List Nd) (s:Bs) (b e:Bool) (n:Nat) (p:Nd) (m:Nat) (x:Nd) (l:List Nat) (k i j:Nat):Prop:=
 (p.r.lo≤(k:Int)∧(p.r.hi<0∨(k:Int)≤p.r.hi)∧Fin T s b e n l i j)∨((p.r.hi<0∨(k:Int)<p.r.hi)∧∃ q,Way s b e x.r i q∧Fin T s b e m (k::l) q j)
def topQ (r:Re):Nat:=if r.hi<0 then r.lo.toNat else r.hi.toNat
def clip (r:Re) (k:Nat):Nat:=if r.hi<0∧r.lo.toNat<k then r.lo.toNat else k
def inClos (r:Re) (ke:Bool) (ts k:Nat):Prop:=k≤topQ r∧∃ j,ts.testBit j=true∧(clip r j=k∨(ke=true∧clip r j≤k))
theorem fin_shift {T:List Nd} {s:Bs} {b e:Bool} {n:Nat} {x p:Nd} (hn:n≠0) (hx:T[n]?=some x) (h0:x.nx=0) (hp:T[x.par]?=some p) (hc:p.cn≠0) (hh:p.r.hi<0) {l:List Nat} {i j k:Nat}
  (h:Fin T s b e n (k::l) i j):∀ k':Nat,p.r.lo≤(k':Int)+1→Fin T s b e n (k'::l) i j:=by
 generalize hl:k::l=L at h;generalize hn':n=N at h
 induction h generalizing k l with
 | root=>exact absurd hn' hn
 | next a1 a2 a3=>
   subst hn';rw[hx] at a2;injection a2 with a2;subst a2;exact absurd h0 a3
 | up a1 a2 a3 a4 a5=>
   subst hn';rw[hx] at a2;injection a2 with a2;subst a2;rw[hp] at a4;injection a4 with a4;subst a4;exact absurd a5 hc
 | again a1 a2 a3 a4 a5=>
   subst hn';rw[hx] at a2;injection a2 with a2;subst a2;rw[hp] at a4;injection a4 with a4;subst a4;exact absurd a5 hc
 | done a1 a2 a3 a4 a5 a6 a7 a8 ih=>
   subst hn';injection hl with q1 q2;subst q1;subst q2
   rw[hx] at a2;injection a2 with a2;subst a2;rw[hp] at a4;injection a4 with a4;subst a4
   intro k' hk';exact .done a1 hx a3 hp a5 hk' (.inl hh) a8
 | more a1 a2 a3 a4 a5 a6 a7 a8 ih=>
   have ih':=ih (k:=_) (l:=_) rfl hn';subst hn';injection hl with q1 q2;subst q1;subst q2
   rw[hx] at a2;injection a2 with a2;subst a2;rw[hp] at a4;injection a4 with a4;subst a4
   intro k' hk';exact .more a1 hx a3 hp a5 (.inl hh) a7 (ih' (k'+1) (by omega))
theorem fin_clip {T:List Nd} {s:Bs} {b e:Bool} {n:Nat} {x p:Nd} (hn:n≠0) (hx:T[n]?=some x) (h0:x.nx=0) (hp:T[x.par]?=some p) (hc:p.cn≠0) {l:List Nat} {i j k:Nat}
  (h:Fin T s b e n (k::l) i j):Fin T s b e n (clip p.r k::l) i j:=by
 unfold clip
 split
 ·rename_i h1
  exact fin_shift hn hx h0 hp hc h1.1 h _ (by omega)
 ·exact h
theorem cnt_unclip {T:List Nd} {s:Bs} {b e:Bool} {n:Nat} {x p:Nd} (hn:n≠0) (hx:T[n]?=some x) (h0:x.nx=0) (hp:T[x.par]?=some p) (hc:p.cn≠0) {l:List Nat} {i j k:Nat}
  (h:Cnt T s b e x.par p n x l (clip p.r k) i j):Cnt T s b e x.par p n x l k i j:=by
 unfold clip at h
 split at h
 ·rename_i h1
  rcases h with ⟨a1,a2,a3⟩ | ⟨a1,q,a2,a3⟩
  ·exact .inl ⟨by omega,.inl h1.1,a3⟩
  ·exact .inr ⟨.inl h1.1,q,a2,fin_shift hn hx h0 hp hc h1.1 a3 _ (by omega)⟩
 ·exact h
theorem fin_row {T:List Nd} {s:Bs} {b e:Bool} {n:Nat} {p:Nd} (hp:T[n]?=some p) (hc:p.cn=0) {σ:List Nat} {j:Nat}:∀ {l:List Re} {a c:Nat} {x:Re} {m k:Nat},
  SubL T a (x::l) true n c→0<a→WayL s b e l m k→Fin T s b e n σ k j→Fin T s b e a σ m j
 | [],a,c,x,m,k,h,ha,hw,hf=>by
   obtain⟨h1,_⟩:=subL_cons h;rw[WayL] at hw;subst hw;exact .up (Nat.pos_iff_ne_zero.1 ha) (sub_at h1) (by simp[ndOf]) hp hc hf
 | y::l,a,c,x,m,k,h,ha,hw,hf=>by
   obtain⟨h1,h2⟩:=subL_cons h;obtain⟨h3,_⟩:=subL_cons h2;rw[WayL] at hw;obtain⟨q,w1,w2⟩:=hw;have:=sizeE_pos x;have e:(ndOf x a n (if true=true∧y::l≠[] then a+sizeE x else 0) c).nx=a+sizeE x:=by simp[ndOf]
   exact .next (Nat.pos_iff_ne_zero.1 ha) (sub_at h1) (by rw[e];omega) (by rw[e];exact sub_at h3) w1 (by rw[e];exact fin_row hp hc h2 (by omega) w2 hf)
theorem fin_star {T:List Nd} {s:Bs} {b e:Bool} {n:Nat} {x p:Nd} (hn:n≠0) (hx:T[n]?=some x) (h0:x.nx=0) (hp:T[x.par]?=some p) (hc:p.cn=0) {σ:List Nat} {j:Nat}:
  ∀ {v m k:Nat},(0<v→p.r.kind=6∧p.r.hi<0)→TimesW (Way s b e x.r) v m k→Fin T s b e x.par σ k j→Fin T s b e n σ m j
 | 0,m,k,_,hw,hf=>by rw[TimesW] at hw;subst hw;exact .up hn hx h0 hp hc hf
 | v+1,m,k,h6,hw,hf=>by
   rw[TimesW] at hw;obtain⟨q,w1,w2⟩:=hw;exact .again hn hx h0 hp hc (h6 (by omega)).1 (h6 (by omega)).2 w1 (fin_star hn hx h0 hp hc (fun _=>h6 (by omega)) w2 hf)
theorem fin_cnt {T:List Nd} {s:Bs} {b e:Bool} {n:Nat} {x p:Nd} (hn:n≠0) (hx:T[n]?=some x) (h0:x.nx=0) (hp:T[x.par]?=some p) (hc:p.cn≠0) {σ:List Nat} {j:Nat}:
  ∀ {v c m k:Nat},p.r.lo≤(c:Int)+1+v→(p.r.hi<0∨(c:Int)+1+v≤p.r.hi)→TimesW (Way s b e x.r) v m k→Fin T s b e x.par σ k j→Fin T s b e n (c::σ) m j
 | 0,c,m,k,g1,g2,hw,hf=>by rw[TimesW] at hw;subst hw;exact .done hn hx h0 hp hc (by omega) (by omega) hf
 | v+1,c,m,k,g1,g2,hw,hf=>by
   rw[TimesW] at hw;obtain⟨q,w1,w2⟩:=hw;exact .more hn hx h0 hp hc (by omega) w1 (fin_cnt hn hx h0 hp hc (by omega) (by omega) w2 hf)
theorem times_first {R:Nat→Nat→Prop} (hle:∀ i j,R i j→i≤j):∀ {q i k:Nat},TimesW R q i k→i<k→∃ u v m,u+v+1=q∧(0<u→R i i)∧R i m∧i<m∧TimesW R v m k
 | 0,i,k,h,hlt=>by rw[TimesW] at h;omega
 | q+1,i,k,h,hlt=>by
   rw[TimesW] at h;obtain⟨m,h1,h2⟩:=h;by_cases hm:i<m
   ·exact⟨0,q,m,by omega,fun h=>by omega,h1,hm,h2⟩
   ·have:m=i:=by have:=hle _ _ h1;omega
    subst this;obtain⟨u,v,m',a1,a2,a3,a4,a5⟩:=times_first hle h2 hlt;exact⟨u+1,v,m',by omega,fun _=>h1,a3,a4,a5⟩
theorem wayL_one {s:Bs} {b e:Bool} {x:Re} {i j:Nat}:WayL s b e [x] i j ↔ Way s b e x i j:=by
 rw[WayL]
 constructor
 ·rintro⟨m,h1,h2⟩;rw[WayL] at h2;subst h2;exact h1
 ·intro h;exact⟨j,h,by rw[WayL]⟩
theorem wayL_one' (s:Bs) (b e:Bool) (x:Re):WayL s b e [x]=Way s b e x:=by funext i j;exact propext wayL_one
theorem way_rep {s:Bs} {b e:Bool} {r x:Re} {i j:Nat} (hk:r.kind=6) (hx:r.kids=[x]):Way s b e r i j ↔ ∃ n:Nat,r.lo≤n∧(r.hi<0∨n≤r.hi)∧TimesW (Way s b e x) n i j:=by
 cases r with
 | mk k S ks lo hi n=>
   simp only[Re.kind,Re.kids,Re.lo,Re.hi] at *;subst hk;subst hx;rw[Way,wayL_one'];simp
theorem way_cat {s:Bs} {b e:Bool} {r:Re} {i j:Nat} (hk:r.kind=4∨r.kind=7):Way s b e r i j ↔ WayL s b e r.kids i j:=by
 cases r with
 | mk k S ks lo hi n=>
   simp only[Re.kind,Re.kids] at *
   rcases hk with rfl | rfl <;> (rw[Way];simp)
theorem way_alt {s:Bs} {b e:Bool} {r:Re} {i j:Nat} (hk:r.kind=5):Way s b e r i j ↔ WayA s b e r.kids i j:=by
 cases r with
 | mk k S ks lo hi n=>
   simp only[Re.kind,Re.kids] at *;subst hk;rw[Way];simp
theorem way_set {s:Bs} {b e:Bool} {r:Re} {i j:Nat} (hk:r.kind=1):Way s b e r i j ↔ ∃ c,s[i]?=some c∧mem r.set c.toNat=true∧j=i+1:=by
 cases r with
 | mk k S ks lo hi n=>
   simp only[Re.kind,Re.set] at *;subst hk;rw[Way];simp
theorem way_0 {s:Bs} {b e:Bool} {r:Re} {i j:Nat} (hk:r.kind=0):Way s b e r i j ↔ i=j:=by
 cases r with
 | mk k S ks lo hi n=>simp only[Re.kind] at *;subst hk;rw[Way];simp
theorem way_2 {s:Bs} {b e:Bool} {r:Re} {i j:Nat} (hk:r.kind=2):Way s b e r i j ↔ i=j∧i=0∧b=true:=by
 cases r with
 | mk k S ks lo hi n=>simp only[Re.kind] at *;subst hk;rw[Way];simp
theorem way_3 {s:Bs} {b e:Bool} {r:Re} {i j:Nat} (hk:r.kind=3):Way s b e r i j ↔ i=j∧i=s.length∧e=true:=by
 cases r with
 | mk k S ks lo hi n=>simp only[Re.kind] at *;subst hk;rw[Way];simp
theorem emp_0 {b e:Bool} {r:Re} (hk:r.kind=0):emptyE b e r=true:=by cases r;simp only[Re.kind] at hk;subst hk;rw[emptyE];simp
theorem emp_1 {b e:Bool} {r:Re} (hk:r.kind=1) (h:r.kids=[]):emptyE b e r=false:=by cases r;simp only[Re.kind,Re.kids] at hk h;subst hk;subst h;rw[emptyE];simp[anyE]
theorem emp_2 {b e:Bool} {r:Re} (hk:r.kind=2):emptyE b e r=b:=by cases r;simp only[Re.kind] at hk;subst hk;rw[emptyE];simp
theorem emp_3 {b e:Bool} {r:Re} (hk:r.kind=3):emptyE b e r=e:=by cases r;simp only[Re.kind] at hk;subst hk;rw[emptyE];simp
theorem emp_4 {b e:Bool} {r:Re} (hk:r.kind=4):emptyE b e r=allE b e r.kids:=by cases r;simp only[Re.kind,Re.kids] at *;subst hk;rw[emptyE];simp
theorem emp_57 {b e:Bool} {r:Re} (hk:r.kind=5∨r.kind=7):emptyE b e r=anyE b e r.kids:=by cases r;simp only[Re.kind,Re.kids] at *;rcases hk with rfl | rfl <;> (rw[emptyE];simp)
theorem emp_6 {b e:Bool} {r x:Re} (hk:r.kind=6) (h:r.kids=[x]):emptyE b e r=(decide (r.lo=0) || emptyE b e x):=by cases r;simp only[Re.kind,Re.kids,Re.lo] at *;subst hk;subst h;rw[emptyE];simp[anyE] <;> rfl
section
abbrev Turns:=List (List (Nat × Nat))
def BegO (old:Nat) (E F:Nat→Nat→Prop) (Bg:Nat→Nat→Nat→Prop) (x:Nd) (ke:Bool) (n t ts:Nat):Prop:=
 ∀ k,inClos x.r ke ts k→(x.r.lo≤(k:Int)→F n t)∧((x.r.hi<0∨(k:Int)<x.r.hi)→Bg n t k∧∀ m,x.kids=[m]→E m (old+x.cn - 1))
def keOf (B E':Bool) (x:Nd):Bool:=anyE B E' x.r.kids
structure Gone (T:List Nd) (B E':Bool) (old:Nat) (tc:Turns) (E F W:Nat→Nat→Prop) (Bg:Nat→Nat→Nat→Prop) (Ov:Prop):Prop where
 e_set:∀ n t x,E n t→T[n]?=some x→x.r.kind=1→W n t
 e_end:∀ n t x,E n t→T[n]?=some x→x.r.kind=3→E'=false→W n t
 e_cat:∀ n t x,E n t→T[n]?=some x→x.r.kind=4→∀ k l,x.kids=k::l→E k t
 e_alt:∀ n t x,E n t→T[n]?=some x→(x.r.kind=5∨x.r.kind=7)→∀ k,k∈x.kids→E k t
 e_rep:∀ n t x,E n t→T[n]?=some x→x.r.kind=6→x.cn=0→∀ k,x.kids=[k]→(x.r.hi≠0→E k t)∧(x.r.lo=0→F n t)
 e_cnt:∀ n t x,E n t→T[n]?=some x→x.r.kind=6→x.cn≠0→BegO old E F Bg x (keOf B E' x) n t 1
 e_emp:∀ n t x,E n t→T[n]?=some x→(x.r.kind=0∨x.r.kind=2∨(x.r.kind=3∧E'=true))→emptyE B E' x.r=true→F n t
 f_root:∀ t,F 0 t→Ov
 f_next:∀ n t x,F n t→n≠0→T[n]?=some x→x.nx≠0→E x.nx t
 f_up:∀ n t x p,F n t→n≠0→T[n]?=some x→x.nx=0→T[x.par]?=some p→p.cn=0→F x.par t∧(p.r.kind=6→p.r.hi<0→E n t)
 f_cnt:∀ n t x p,F n t→n≠0→T[n]?=some x→x.nx=0→T[x.par]?=some p→p.cn≠0→t<old→∀ l,tc[t]?=some l→∀ w,w∈l→BegO old E F Bg p (keOf B E' p) x.par w.1 (2 * w.2)
structure Stands (T:List Nd) (old:Nat) (tc:Turns) (Bg:Nat→Nat→Nat→Prop) (D:Nat→List Nat→Prop):Prop where
 was:∀ t,t<old→∀ l,D t l→l=[]∨∃ ws w c l',tc[t]?=some ws∧w∈ws∧w.2.testBit c=true∧l=c::l'∧D w.1 l'∧w.1<old
 new:∀ n x t k l,T[n]?=some x→x.cn≠0→Bg n t k→D t l→D (old+x.cn - 1) (k::l)
def Acc (T:List Nd) (s:Bs) (b e:Bool) (W:Nat→Nat→Prop) (D:Nat→List Nat→Prop) (Ov:Prop) (i j:Nat):Prop:=
 (Ov∧j=i)∨∃ n t l x,W n t∧D t l∧T[n]?=some x∧
  ((x.r.kind=1∧(∃ c,s[i]?=some c∧mem x.r.set c.toNat=true)∧Fin T s b e n l (i+1) j)∨(x.r.kind=3∧e=true∧i=s.length∧Fin T s b e n l i j))
theorem kids_cons {n:Nat} {r:Re} {x:Re} {l:List Re} (h:r.kids=x::l):kidsAt (n+1) r.kids=(n+1)::kidsAt (n+1+sizeE x) l:=by rw[h,kidsAt]
theorem cn_cat {r:Re} {n p nx c:Nat} (h:r.kind≠6):(ndOf r n p nx c).cn=0:=by unfold ndOf cntQ;simp[h]
theorem cn_rep {r:Re} {n p nx c:Nat} (h:(ndOf r n p nx c).cn≠0):r.kind=6∧(1<r.hi∨(r.hi<0∧1<r.lo)):=by
 unfold ndOf cntQ at h;simp only[ne_eq,ite_eq_right_iff] at h;simp at h;refine⟨h.1,?_⟩;by_cases h2:1<r.hi
 ·exact .inl h2
 ·exact .inr (h.2 (by omega))
theorem cn_rep0 {r:Re} {n p nx c:Nat} (h:(ndOf r n p nx c).cn=0) (h6:r.kind=6):¬ (1<r.hi∨(r.hi<0∧1<r.lo)):=by
 unfold ndOf cntQ at h;intro h7;simp[h6,h7] at h
section
variable {T:List Nd} {s:Bs} {b e B E':Bool} {i old:Nat} {tc:Turns} {E F W:Nat→Nat→Prop} {Bg:Nat→Nat→Nat→Prop} {Ov:Prop} {D:Nat→List Nat→Prop}
theorem sub_kid1 {r x:Re} {n p nx c:Nat} (h:Sub T n r p nx c) (hk:r.kids=[x]):∃ c',Sub T (n+1) x n 0 c':=by
 have h1:=sub_kids h;rw[hk] at h1;have:=(subL_cons h1).1;simp only[ne_eq,not_true_eq_false,and_false,if_false] at this;exact⟨_,this⟩
theorem gone_empty (G:Gone T B E' old tc E F W Bg Ov) (r:Re):∀ {n p nx c t:Nat},Sub T n r p nx c→Fine r→emptyE B E' r=true→E n t→F n t:=by
 induction r using Re.ind with
 | h k S ks lo hi g ih=>
   intro n p nx c t hs hf he hE;have hx:=sub_at hs
   have kid1:∀ x,ks=[x]→(ndOf (.mk k S ks lo hi g) n p nx c).cn=0→emptyE B E' x=true→E (n+1) t→F n t:=by
    intro x hk hcn h1 h2;obtain⟨c',h3⟩:=sub_kid1 hs (by exact hk);have h4:=ih x (by rw[hk];exact List.mem_cons_self ..) h3 (hf.kids (by show x∈ks;rw[hk];exact List.mem_cons_self ..)) h1 h2;exact(G.f_up _ _ _ _ h4 (by omega) (sub_at h3) rfl hx hcn).1
   rcases hf.cases with ⟨h0,hk⟩ | ⟨h0,hk⟩ | ⟨h0,hk⟩ | ⟨h0,hk⟩ | ⟨h0,y,z,l,hk⟩ | ⟨h0,y,z,l,hk⟩ | ⟨h0,⟨y,hk⟩,hl,hl8,hh⟩ | ⟨h0,y,hk⟩
   ·exact G.e_emp _ _ _ hE hx (.inl h0) he
   ·rw[emp_1 h0 hk] at he;cases he
   ·exact G.e_emp _ _ _ hE hx (.inr (.inl h0)) he
   ·exact G.e_emp _ _ _ hE hx (.inr (.inr ⟨h0,by rw[emp_3 h0] at he;exact he⟩)) he
   ·
    rw[emp_4 h0] at he;have hc0:(ndOf (Re.mk k S ks lo hi g) n p nx c).cn=0:=cn_cat (by omega);have hq:decide ((Re.mk k S ks lo hi g).kind=4)=true:=by simp[h0]
    have hL:=sub_kids hs;rw[hq] at hL
    have key:∀ (l:List Re) (a c':Nat) (x:Re),(∀ y∈x::l,y∈ks)→SubL T a (x::l) true n c'→0<a→allE B E' (x::l)=true→E a t→F n t:=by
     intro l
     induction l with
     | nil=>
       intro a c' x hm h1 ha h2 h3;obtain⟨h4,_⟩:=subL_cons h1;rw[allE,Bool.and_eq_true] at h2;have h5:=ih x (hm x (List.mem_cons_self ..)) h4 (hf.kids (hm x (List.mem_cons_self ..))) h2.1 h3;exact(G.f_up _ _ _ _ h5 (Nat.pos_iff_ne_zero.1 ha) (sub_at h4) (by simp[ndOf]) hx hc0).1
     | cons y l ihl=>
       intro a c' x hm h1 ha h2 h3;obtain⟨h4,h4'⟩:=subL_cons h1;rw[allE,Bool.and_eq_true] at h2;have h5:=ih x (hm x (List.mem_cons_self ..)) h4 (hf.kids (hm x (List.mem_cons_self ..))) h2.1 h3;have hz:=sizeE_pos x;have h6:=G.f_next _ _ _ h5 (Nat.pos_iff_ne_zero.1 ha) (sub_at h4) (by simp[ndOf];omega);simp only[ndOf,ne_eq,reduceCtorEq,not_false_eq_true,and_self,if_true] at h6;exact ihl _ _ y (fun w hw=>hm w (List.mem_cons_of_mem _ hw)) h4' (by omega) h2.2 h6
    change SubL T (n+1) ks true n _ at hL
    change ks=_ at hk
    change allE B E' ks=true at he
    rw[hk] at hL he;have hE1:=G.e_cat _ _ _ hE hx h0 (n+1) _ (kids_cons (r:= .mk k S ks lo hi g) hk);exact key _ _ _ _ (by rw[hk];exact fun _ h=>h) hL (by omega) he hE1
   ·
    rw[emp_57 (.inl h0)] at he;have hc0:(ndOf (Re.mk k S ks lo hi g) n p nx c).cn=0:=cn_cat (by omega);have hq:decide ((Re.mk k S ks lo hi g).kind=4)=false:=by simp[h0]
    have hL:=sub_kids hs;rw[hq] at hL;have hE1:=G.e_alt _ _ _ hE hx (.inl h0)
    change SubL T (n+1) ks false n _ at hL
    change anyE B E' ks=true at he
    change ∀ m,m∈kidsAt (n+1) ks→E m t at hE1
    have key:∀ (l:List Re) (a c':Nat),(∀ y∈l,y∈ks)→SubL T a l false n c'→0<a→anyE B E' l=true→(∀ m,m∈kidsAt a l→E m t)→F n t:=by
     intro l
     induction l with
     | nil=>intro a c' _ _ _ h2;rw[anyE] at h2;cases h2
     | cons x l ihl=>
       intro a c' hm h1 ha h2 h3;obtain⟨h4,h4'⟩:=subL_cons h1;rw[kidsAt] at h3;rw[anyE,Bool.or_eq_true] at h2
       rcases h2 with h2 | h2
       ·have h5:=ih x (hm x (List.mem_cons_self ..)) h4 (hf.kids (hm x (List.mem_cons_self ..))) h2 (h3 _ (List.mem_cons_self ..))
        exact(G.f_up _ _ _ _ h5 (Nat.pos_iff_ne_zero.1 ha) (sub_at h4) (by simp[ndOf]) hx hc0).1
       ·exact ihl _ _ (fun w hw=>hm w (List.mem_cons_of_mem _ hw)) h4' (by omega) h2 (fun m hm'=>h3 m (List.mem_cons_of_mem _ hm'))
    exact key ks _ _ (fun _ h=>h) hL (by omega) he hE1
   ·
    rw[emp_6 h0 hk,Bool.or_eq_true,decide_eq_true_eq] at he
    have hkk:(ndOf (Re.mk k S ks lo hi g) n p nx c).kids=[n+1]:=by
     change kidsAt (n+1) ks=_;change ks=_ at hk;rw[hk,kidsAt,kidsAt]
    by_cases hc0:(ndOf (Re.mk k S ks lo hi g) n p nx c).cn=0
    ·obtain⟨g1,g2⟩:=G.e_rep _ _ _ hE hx h0 hc0 _ hkk
     rcases he with he | he
     ·exact g2 he
     ·by_cases hl0:(Re.mk k S ks lo hi g).lo=0
      ·exact g2 hl0
      ·exact kid1 y hk hc0 he (g1 (by show (Re.mk k S ks lo hi g).hi≠0;omega))
    ·have hB:=G.e_cnt _ _ _ hE hx h0 hc0
     have hke:keOf B E' (ndOf (Re.mk k S ks lo hi g) n p nx c)=emptyE B E' y:=by
      unfold keOf;show anyE B E' ks=_;change ks=_ at hk;rw[hk,anyE,anyE];simp
     have h3:=hB (Re.mk k S ks lo hi g).lo.toNat;rw[hke] at h3;refine(h3 ⟨?_,0,by decide,?_⟩).1 (by show (Re.mk k S ks lo hi g).lo≤_;omega)
     ·unfold topQ;show _≤if (Re.mk k S ks lo hi g).hi<0 then _ else _
      change (Re.mk k S ks lo hi g).lo.toNat≤if (Re.mk k S ks lo hi g).hi<0 then (Re.mk k S ks lo hi g).lo.toNat else (Re.mk k S ks lo hi g).hi.toNat
      split <;> omega
     ·have hcl:clip (ndOf (Re.mk k S ks lo hi g) n p nx c).r 0=0:=by unfold clip;simp
      rw[hcl]
      rcases he with he | he
      ·left;rw[he];rfl
      ·right;exact⟨he,Nat.zero_le _⟩
   ·
    rw[emp_57 (.inr h0)] at he
    change ks=_ at hk
    change anyE B E' ks=true at he
    rw[hk,anyE,anyE,Bool.or_false] at he;have hE1:=G.e_alt _ _ _ hE hx (.inr h0) (n+1) (by show n+1∈kidsAt (n+1) ks;rw[hk,kidsAt];exact List.mem_cons_self ..);exact kid1 y hk (cn_cat (by omega)) he hE1
theorem gone_end (hB:B=(b && decide (i=0))) (G:Gone T B E' old tc E F W Bg Ov) (S:Stands T old tc Bg D) (r:Re):∀ {n p nx c t:Nat} {l:List Nat} {j:Nat},Sub T n r p nx c→Fine r→emptyE B E' r=false→Way s b e r i i→E n t→D t l→Fin T s b e n l i j→Acc T s b e W D Ov i j:=by
 induction r using Re.ind with
 | h k S0 ks lo hi g ih=>
   intro n p nx c t l j hs hf he hw hE hD hF;have hx:=sub_at hs
   have kid1:∀ x,ks=[x]→(ndOf (.mk k S0 ks lo hi g) n p nx c).cn=0→emptyE B E' x=false→Way s b e x i i→E (n+1) t→Acc T s b e W D Ov i j:=by
    intro x hk hcn h1 h2 h3;obtain⟨c',h4⟩:=sub_kid1 hs (by exact hk);exact ih x (by rw[hk];exact List.mem_cons_self ..) h4 (hf.kids (by show x∈ks;rw[hk];exact List.mem_cons_self ..)) h1 h2 h3 hD (.up (by omega) (sub_at h4) rfl hx hcn hF)
   rcases hf.cases with ⟨h0,hk⟩ | ⟨h0,hk⟩ | ⟨h0,hk⟩ | ⟨h0,hk⟩ | ⟨h0,y,z,l',hk⟩ | ⟨h0,y,z,l',hk⟩ | ⟨h0,⟨y,hk⟩,hl,hl8,hh⟩ | ⟨h0,y,hk⟩
   ·rw[emp_0 h0] at he;cases he
   ·rw[way_set h0] at hw;obtain⟨c,_,_,h⟩:=hw;omega
   ·rw[way_2 h0] at hw
    rw[emp_2 h0,hB,hw.2.1,hw.2.2] at he;simp at he
   ·rw[emp_3 h0] at he
    rw[way_3 h0] at hw;exact .inr ⟨n,t,l,_,G.e_end _ _ _ hE hx h0 he,hD,hx,.inr ⟨h0,hw.2.2,hw.2.1,hF⟩⟩
   ·
    rw[emp_4 h0] at he;rw[way_cat (.inl h0)] at hw;have hc0:(ndOf (Re.mk k S0 ks lo hi g) n p nx c).cn=0:=cn_cat (by omega);have hq:decide ((Re.mk k S0 ks lo hi g).kind=4)=true:=by simp[h0]
    have hL:=sub_kids hs;rw[hq] at hL
    have key:∀ (m:List Re) (a c':Nat) (x:Re),(∀ y∈x::m,y∈ks)→SubL T a (x::m) true n c'→0<a→allE B E' (x::m)=false→WayL s b e (x::m) i i→E a t→Acc T s b e W D Ov i j:=by
     intro m
     induction m with
     | nil=>
       intro a c' x hm h1 ha h2 hw h3;obtain⟨h4,_⟩:=subL_cons h1;rw[allE,allE,Bool.and_true] at h2;rw[wayL_one] at hw;exact ih x (hm x (List.mem_cons_self ..)) h4 (hf.kids (hm x (List.mem_cons_self ..))) h2 hw h3 hD (.up (Nat.pos_iff_ne_zero.1 ha) (sub_at h4) (by simp[ndOf]) hx hc0 hF)
     | cons y m ihl=>
       intro a c' x hm h1 ha h2 hw h3;obtain⟨h4,h4'⟩:=subL_cons h1;rw[allE] at h2;rw[WayL] at hw;obtain⟨q,w1,w2⟩:=hw;have g1:=way_le _ _ _ _ _ _ w1;have g2:=way_le s b e (.mk 4 none4 (y::m) 0 0 0) q i (by rw[way_cat (.inl rfl)];exact w2);have:q=i:=by omega
       subst this;by_cases hxe:emptyE B E' x=true
       ·have h5:=gone_empty G x h4 (hf.kids (hm x (List.mem_cons_self ..))) hxe h3
        have hz:=sizeE_pos x;have h6:=G.f_next _ _ _ h5 (Nat.pos_iff_ne_zero.1 ha) (sub_at h4) (by simp[ndOf];omega);simp only[ndOf,ne_eq,reduceCtorEq,not_false_eq_true,and_self,if_true] at h6;rw[hxe,Bool.true_and] at h2;exact ihl _ _ y (fun w hw=>hm w (List.mem_cons_of_mem _ hw)) h4' (by omega) h2 w2 h6
       ·refine ih x (hm x (List.mem_cons_self ..)) h4 (hf.kids (hm x (List.mem_cons_self ..))) (by simpa using hxe) w1 h3 hD (fin_row hx hc0 h1 ha w2 hF)
    change SubL T (n+1) ks true n _ at hL
    change ks=_ at hk
    change allE B E' ks=false at he
    change WayL s b e ks i i at hw
    rw[hk] at hL he hw;have hE1:=G.e_cat _ _ _ hE hx h0 (n+1) _ (kids_cons (r:= .mk k S0 ks lo hi g) hk);exact key _ _ _ _ (by rw[hk];exact fun _ h=>h) hL (by omega) he hw hE1
   ·
    rw[emp_57 (.inl h0)] at he;rw[way_alt h0] at hw;have hc0:(ndOf (Re.mk k S0 ks lo hi g) n p nx c).cn=0:=cn_cat (by omega);have hq:decide ((Re.mk k S0 ks lo hi g).kind=4)=false:=by simp[h0]
    have hL:=sub_kids hs;rw[hq] at hL;have hE1:=G.e_alt _ _ _ hE hx (.inl h0)
    change SubL T (n+1) ks false n _ at hL
    change anyE B E' ks=false at he
    change WayA s b e ks i i at hw
    change ∀ m,m∈kidsAt (n+1) ks→E m t at hE1
    have key:∀ (m:List Re) (a c':Nat),(∀ y∈m,y∈ks)→SubL T a m false n c'→0<a→anyE B E' m=false→WayA s b e m i i→(∀ q,q∈kidsAt a m→E q t)→Acc T s b e W D Ov i j:=by
     intro m
     induction m with
     | nil=>intro a c' _ _ _ _ hw;rw[WayA] at hw;cases hw
     | cons x m ihl=>
       intro a c' hm h1 ha h2 hw h3;obtain⟨h4,h4'⟩:=subL_cons h1;rw[kidsAt] at h3;rw[anyE,Bool.or_eq_false_iff] at h2;rw[WayA] at hw
       rcases hw with hw | hw
       ·exact ih x (hm x (List.mem_cons_self ..)) h4 (hf.kids (hm x (List.mem_cons_self ..))) h2.1 hw (h3 _ (List.mem_cons_self ..)) hD (.up (Nat.pos_iff_ne_zero.1 ha) (sub_at h4) (by simp[ndOf]) hx hc0 hF)
       ·exact ihl _ _ (fun w hw=>hm w (List.mem_cons_of_mem _ hw)) h4' (by omega) h2.2 hw (fun q hm'=>h3 q (List.mem_cons_of_mem _ hm'))
    exact key ks _ _ (fun _ h=>h) hL (by omega) he hw hE1
   ·
    rw[emp_6 h0 hk,Bool.or_eq_false_iff,decide_eq_false_iff_not] at he;obtain⟨hlo,hye⟩:=he;rw[way_rep h0 hk] at hw;obtain⟨q,q1,q2,q3⟩:=hw
    have hkk:(ndOf (Re.mk k S0 ks lo hi g) n p nx c).kids=[n+1]:=by
     change kidsAt (n+1) ks=_;change ks=_ at hk;rw[hk,kidsAt,kidsAt]
    obtain⟨v,hv⟩:∃ v,q=v+1:=⟨q - 1,by omega⟩;subst hv;rw[TimesW] at q3;obtain⟨m,w1,w2⟩:=q3;have g1:=way_le _ _ _ _ _ _ w1
    have g2:m≤i:=by
     have:∀ v m k,TimesW (Way s b e y) v m k→m≤k:=by
      intro v
      induction v with
      | zero=>intro m k h;rw[TimesW] at h;omega
      | succ v ihv=>intro m k h;rw[TimesW] at h;obtain⟨m',a1,a2⟩:=h;have:=way_le _ _ _ _ _ _ a1;have:=ihv _ _ a2;omega
     exact this _ _ _ w2
    have:m=i:=by omega
    subst this;obtain⟨c',h4⟩:=sub_kid1 hs (by exact hk);by_cases hc0:(ndOf (Re.mk k S0 ks lo hi g) n p nx c).cn=0
    ·obtain⟨g1,_⟩:=G.e_rep _ _ _ hE hx h0 hc0 _ hkk
     exact kid1 y hk hc0 hye w1 (g1 (by show (Re.mk k S0 ks lo hi g).hi≠0;omega))
    ·have hBg:=G.e_cnt _ _ _ hE hx h0 hc0
     have hcl:clip (ndOf (Re.mk k S0 ks lo hi g) n p nx c).r 0=0:=by unfold clip;simp
     have h3:=(hBg 0 ⟨Nat.zero_le _,0,by decide,.inl hcl⟩).2 (by show (Re.mk k S0 ks lo hi g).hi<0∨_<(Re.mk k S0 ks lo hi g).hi;omega);have hD2:=S.new n _ t 0 l hx hc0 h3.1 hD
     exact ih y (by change ks=_ at hk;rw[hk];exact List.mem_cons_self ..) h4 (hf.kids (by rw[hk];exact List.mem_cons_self ..)) hye w1 (h3.2 _ hkk) hD2
      (fin_cnt (x:=ndOf y (n+1) n 0 c') (by omega) (sub_at h4) rfl hx hc0 (by show (Re.mk k S0 ks lo hi g).lo≤_;omega) (by show (Re.mk k S0 ks lo hi g).hi<0∨_≤(Re.mk k S0 ks lo hi g).hi;omega) w2 hF)
   ·
    rw[emp_57 (.inr h0)] at he;rw[way_cat (.inr h0)] at hw
    change ks=_ at hk
    change anyE B E' ks=false at he
    change WayL s b e ks i i at hw
    rw[hk,anyE,anyE,Bool.or_false] at he;rw[hk,wayL_one] at hw;have hE1:=G.e_alt _ _ _ hE hx (.inr h0) (n+1) (by show n+1∈kidsAt (n+1) ks;rw[hk,kidsAt];exact List.mem_cons_self ..);exact kid1 y hk (cn_cat (by omega)) he hw hE1
end
end
section
section
variable {T:List Nd} {s:Bs} {b e B E':Bool} {i old:Nat} {tc:Turns} {E F W:Nat→Nat→Prop} {Bg:Nat→Nat→Nat→Prop} {Ov:Prop} {D:Nat→List Nat→Prop}
theorem gone_way (hB:B=(b && decide (i=0))) (hE':E'=true→e=true∧i=s.length) (G:Gone T B E' old tc E F W Bg Ov) (S:Stands T old tc Bg D) (r:Re):
  ∀ {n p nx c t:Nat} {l:List Nat} {k j:Nat},Sub T n r p nx c→Fine r→Way s b e r i k→i<k→E n t→D t l→Fin T s b e n l k j→Acc T s b e W D Ov i j:=by
 induction r using Re.ind with
 | h kd S0 ks lo hi g ih=>
   intro n p nx c t l k j hs hf hw hlt hE hD hF;have hx:=sub_at hs
   have kid1:∀ x,ks=[x]→(ndOf (.mk kd S0 ks lo hi g) n p nx c).cn=0→Way s b e x i k→E (n+1) t→Acc T s b e W D Ov i j:=by
    intro x hk hcn h2 h3;obtain⟨c',h4⟩:=sub_kid1 hs (by exact hk);exact ih x (by rw[hk];exact List.mem_cons_self ..) h4 (hf.kids (by show x∈ks;rw[hk];exact List.mem_cons_self ..)) h2 hlt h3 hD (.up (by omega) (sub_at h4) rfl hx hcn hF)
   rcases hf.cases with ⟨h0,hk⟩ | ⟨h0,hk⟩ | ⟨h0,hk⟩ | ⟨h0,hk⟩ | ⟨h0,y,z,l',hk⟩ | ⟨h0,y,z,l',hk⟩ | ⟨h0,⟨y,hk⟩,hl,hl8,hh⟩ | ⟨h0,y,hk⟩
   ·rw[way_0 h0] at hw;omega
   ·rw[way_set h0] at hw
    obtain⟨c',h1,h2,h3⟩:=hw;subst h3;exact .inr ⟨n,t,l,_,G.e_set _ _ _ hE hx h0,hD,hx,.inl ⟨h0,⟨c',h1,h2⟩,hF⟩⟩
   ·rw[way_2 h0] at hw;omega
   ·rw[way_3 h0] at hw;omega
   ·
    rw[way_cat (.inl h0)] at hw;have hc0:(ndOf (Re.mk kd S0 ks lo hi g) n p nx c).cn=0:=cn_cat (by omega);have hq:decide ((Re.mk kd S0 ks lo hi g).kind=4)=true:=by simp[h0]
    have hL:=sub_kids hs;rw[hq] at hL
    have key:∀ (m:List Re) (a c':Nat) (x:Re),(∀ y∈x::m,y∈ks)→SubL T a (x::m) true n c'→0<a→WayL s b e (x::m) i k→E a t→Acc T s b e W D Ov i j:=by
     intro m
     induction m with
     | nil=>
       intro a c' x hm h1 ha hw h3;obtain⟨h4,_⟩:=subL_cons h1;rw[wayL_one] at hw;exact ih x (hm x (List.mem_cons_self ..)) h4 (hf.kids (hm x (List.mem_cons_self ..))) hw hlt h3 hD (.up (Nat.pos_iff_ne_zero.1 ha) (sub_at h4) (by simp[ndOf]) hx hc0 hF)
     | cons y m ihl=>
       intro a c' x hm h1 ha hw h3;obtain⟨h4,h4'⟩:=subL_cons h1;rw[WayL] at hw;obtain⟨q,w1,w2⟩:=hw;have g1:=way_le _ _ _ _ _ _ w1;by_cases hq:i<q
       ·exact ih x (hm x (List.mem_cons_self ..)) h4 (hf.kids (hm x (List.mem_cons_self ..))) w1 hq h3 hD (fin_row hx hc0 h1 ha w2 hF)
       ·have:q=i:=by omega
        subst this;by_cases hxe:emptyE B E' x=true
        ·have h5:=gone_empty G x h4 (hf.kids (hm x (List.mem_cons_self ..))) hxe h3
         have hz:=sizeE_pos x;have h6:=G.f_next _ _ _ h5 (Nat.pos_iff_ne_zero.1 ha) (sub_at h4) (by simp[ndOf];omega);simp only[ndOf,ne_eq,reduceCtorEq,not_false_eq_true,and_self,if_true] at h6;exact ihl _ _ y (fun w hw=>hm w (List.mem_cons_of_mem _ hw)) h4' (by omega) w2 h6
        ·exact gone_end hB G S x h4 (hf.kids (hm x (List.mem_cons_self ..))) (by simpa using hxe) w1 h3 hD (fin_row hx hc0 h1 ha w2 hF)
    change SubL T (n+1) ks true n _ at hL
    change ks=_ at hk
    change WayL s b e ks i k at hw
    rw[hk] at hL hw;have hE1:=G.e_cat _ _ _ hE hx h0 (n+1) _ (kids_cons (r:= .mk kd S0 ks lo hi g) hk);exact key _ _ _ _ (by rw[hk];exact fun _ h=>h) hL (by omega) hw hE1
   ·
    rw[way_alt h0] at hw;have hc0:(ndOf (Re.mk kd S0 ks lo hi g) n p nx c).cn=0:=cn_cat (by omega);have hq:decide ((Re.mk kd S0 ks lo hi g).kind=4)=false:=by simp[h0]
    have hL:=sub_kids hs;rw[hq] at hL;have hE1:=G.e_alt _ _ _ hE hx (.inl h0)
    change SubL T (n+1) ks false n _ at hL
    change WayA s b e ks i k at hw
    change ∀ m,m∈kidsAt (n+1) ks→E m t at hE1
    have key:∀ (m:List Re) (a c':Nat),(∀ y∈m,y∈ks)→SubL T a m false n c'→0<a→WayA s b e m i k→(∀ q,q∈kidsAt a m→E q t)→Acc T s b e W D Ov i j:=by
     intro m
     induction m with
     | nil=>intro a c' _ _ _ hw;rw[WayA] at hw;cases hw
     | cons x m ihl=>
       intro a c' hm h1 ha hw h3;obtain⟨h4,h4'⟩:=subL_cons h1;rw[kidsAt] at h3;rw[WayA] at hw
       rcases hw with hw | hw
       ·exact ih x (hm x (List.mem_cons_self ..)) h4 (hf.kids (hm x (List.mem_cons_self ..))) hw hlt (h3 _ (List.mem_cons_self ..)) hD (.up (Nat.pos_iff_ne_zero.1 ha) (sub_at h4) (by simp[ndOf]) hx hc0 hF)
       ·exact ihl _ _ (fun w hw=>hm w (List.mem_cons_of_mem _ hw)) h4' (by omega) hw (fun q hm'=>h3 q (List.mem_cons_of_mem _ hm'))
    exact key ks _ _ (fun _ h=>h) hL (by omega) hw hE1
   ·
    rw[way_rep h0 hk] at hw;obtain⟨q,q1,q2,q3⟩:=hw
    have hkk:(ndOf (Re.mk kd S0 ks lo hi g) n p nx c).kids=[n+1]:=by
     change kidsAt (n+1) ks=_;change ks=_ at hk;rw[hk,kidsAt,kidsAt]
    have hky:y∈ks:=by change ks=_ at hk;rw[hk];exact List.mem_cons_self ..
    obtain⟨u,v,m,a1,a2,a3,a4,a5⟩:=times_first (fun i j h=>way_le _ _ _ _ _ _ h) q3 hlt;obtain⟨c',h4⟩:=sub_kid1 hs (by exact hk);by_cases hc0:(ndOf (Re.mk kd S0 ks lo hi g) n p nx c).cn=0
    ·have hn:=cn_rep0 hc0 h0
     obtain⟨g1,_⟩:=G.e_rep _ _ _ hE hx h0 hc0 _ hkk;have hE1:=g1 (by show (Re.mk kd S0 ks lo hi g).hi≠0;omega);exact ih y hky h4 (hf.kids hky) a3 a4 hE1 hD (fin_star (x:=ndOf y (n+1) n 0 c') (by omega) (sub_at h4) rfl hx hc0 (fun hv=>⟨h0,by show (Re.mk kd S0 ks lo hi g).hi<0;omega⟩) a5 hF)
    ·have hBg:=G.e_cnt _ _ _ hE hx h0 hc0
     have hke:keOf B E' (ndOf (Re.mk kd S0 ks lo hi g) n p nx c)=emptyE B E' y:=by
      unfold keOf;show anyE B E' ks=_;change ks=_ at hk;rw[hk,anyE,anyE];simp
     rw[hke] at hBg;have hcl:∀ j,clip (ndOf (Re.mk kd S0 ks lo hi g) n p nx c).r j=clip (Re.mk kd S0 ks lo hi g) j:=fun _=>rfl
     have hcl0:clip (Re.mk kd S0 ks lo hi g) 0=0:=by unfold clip;simp
     have go:∀ u',inClos (Re.mk kd S0 ks lo hi g) (emptyE B E' y) 1 (clip (Re.mk kd S0 ks lo hi g) u')→((Re.mk kd S0 ks lo hi g).hi<0∨(clip (Re.mk kd S0 ks lo hi g) u':Int)<(Re.mk kd S0 ks lo hi g).hi)→
       Fin T s b e (n+1) (u'::l) m j→Acc T s b e W D Ov i j:=by
      intro u' h1 h2 h5;have h3:=(hBg _ h1).2 h2;have hD2:=S.new n _ t _ l hx hc0 h3.1 hD;refine ih y hky h4 (hf.kids hky) a3 a4 (h3.2 _ hkk) hD2 (fin_clip (x:=ndOf y (n+1) n 0 c') (by omega) (sub_at h4) rfl hx hc0 h5)
     by_cases hu:u=0
     ·subst hu
      refine go 0 ?_ ?_ (fin_cnt (x:=ndOf y (n+1) n 0 c') (by omega) (sub_at h4) rfl hx hc0 (by show (Re.mk kd S0 ks lo hi g).lo≤_;omega) (by show (Re.mk kd S0 ks lo hi g).hi<0∨_≤(Re.mk kd S0 ks lo hi g).hi;omega) a5 hF)
      ·rw[hcl0];exact⟨Nat.zero_le _,0,by decide,.inl hcl0⟩
      ·rw[hcl0];omega
     ·by_cases hye:emptyE B E' y=true
      ·refine go u ?_ ?_ (fin_cnt (x:=ndOf y (n+1) n 0 c') (by omega) (sub_at h4) rfl hx hc0 (by show (Re.mk kd S0 ks lo hi g).lo≤_;omega) (by show (Re.mk kd S0 ks lo hi g).hi<0∨_≤(Re.mk kd S0 ks lo hi g).hi;omega) a5 hF)
       ·refine⟨?_,0,by decide,.inr ⟨hye,by rw[hcl0];exact Nat.zero_le _⟩⟩
        unfold clip topQ
        split <;> split <;> omega
       ·unfold clip;split <;> omega
      ·have hyw:=a2 (by omega)
       have:=way_empty s b e i y (hf.kids hky) hyw;have h3:=(hBg 0 ⟨Nat.zero_le _,0,by decide,.inl hcl0⟩).2 (by show (Re.mk kd S0 ks lo hi g).hi<0∨_<(Re.mk kd S0 ks lo hi g).hi;omega);have hD2:=S.new n _ t 0 l hx hc0 h3.1 hD;obtain⟨q',hq'⟩:∃ q',q=q'+1:=⟨q - 1,by omega⟩
       have hrest:TimesW (Way s b e y) q' i k:=by
        have:∀ u',u'+v+1=q'→TimesW (Way s b e y) (u'+v+1) i k:=by
         intro u' _
         have go2:∀ u',TimesW (Way s b e y) (u'+(v+1)) i k:=by
          intro u'
          induction u' with
          | zero=>rw[Nat.zero_add,TimesW];exact⟨m,a3,a5⟩
          | succ u' ihu=>rw[show u'+1+(v+1)=(u'+(v+1))+1 by omega,TimesW];exact⟨i,hyw,ihu⟩
         exact go2 u'
        have:=this (u - 1) (by omega);rw[show u - 1+v+1=q' by omega] at this;exact this
       exact gone_end hB G S y h4 (hf.kids hky) (by simpa using hye) hyw (h3.2 _ hkk) hD2
        (fin_cnt (x:=ndOf y (n+1) n 0 c') (by omega) (sub_at h4) rfl hx hc0 (by show (Re.mk kd S0 ks lo hi g).lo≤_;omega) (by show (Re.mk kd S0 ks lo hi g).hi<0∨_≤(Re.mk kd S0 ks lo hi g).hi;omega) hrest hF)
   ·
    rw[way_cat (.inr h0)] at hw
    change ks=_ at hk
    change WayL s b e ks i k at hw
    rw[hk,wayL_one] at hw;have hE1:=G.e_alt _ _ _ hE hx (.inr h0) (n+1) (by show n+1∈kidsAt (n+1) ks;rw[hk,kidsAt];exact List.mem_cons_self ..);exact kid1 y hk (cn_cat (by omega)) hw hE1
def Cl (old:Nat) (E F:Nat→Nat→Prop) (Bg:Nat→Nat→Nat→Prop) (p:Nd) (ke:Bool) (n t k:Nat):Prop:=
 ∃ ts,BegO old E F Bg p ke n t ts∧∃ j,ts.testBit j=true∧(clip p.r j=k∨(ke=true∧clip p.r j≤k))
theorem clip_succ (r:Re) (k:Nat):clip r k≤clip r (k+1):=by unfold clip;split <;> split <;> omega
theorem clip_top {r:Re} {k:Nat} (h:0≤r.hi→(k:Int)≤r.hi):clip r k≤topQ r:=by unfold clip topQ;split <;> split <;> omega
theorem clip_top1 {r:Re} {c:Nat} (h:r.hi<0∨(c:Int)+1≤r.hi):clip r (c+1)≤topQ r:=clip_top (by omega)
theorem clip_lt {r:Re} {c:Nat} (h:r.hi<0∨(c:Int)+1<r.hi):clip r (c+1)≤topQ r∧(r.hi<0∨((clip r (c+1):Nat):Int)<r.hi):=by
 refine⟨clip_top (by omega),?_⟩;unfold clip;split <;> omega
theorem lo_clip {r:Re} {c:Nat} (h:r.lo≤(c:Int)+1):r.lo≤((clip r (c+1):Nat):Int):=by unfold clip;split <;> omega
theorem gone_fin (hB:B=(b && decide (i=0))) (hE':E'=true→e=true∧i=s.length) (G:Gone T B E' old tc E F W Bg Ov) (S:Stands T old tc Bg D)
  (hsub:∀ n x,T[n]?=some x→∃ p nx c,Sub T n x.r p nx c∧Fine x.r) (hkid:∀ n x p,n≠0→T[n]?=some x→T[x.par]?=some p→p.cn≠0→p.kids=[n]∧p.r.kids=[x.r])
  {n:Nat} {l:List Nat} {i' j:Nat} (h:Fin T s b e n l i' j):i'=i→
  ((∃ t,t<old∧F n t∧D t l)∨(∃ x p t c l',n≠0∧T[n]?=some x∧x.nx=0∧T[x.par]?=some p∧p.cn≠0∧t<old∧D t l'∧l=c::l'∧Cl old E F Bg p (keOf B E' p) x.par t (clip p.r (c+1))))→Acc T s b e W D Ov i j:=by
 have cnt:∀ {n:Nat} {x p:Nd} {t c:Nat} {l':List Nat},n≠0→T[n]?=some x→x.nx=0→T[x.par]?=some p→p.cn≠0→t<old→F n t→D t (c::l')→
   ∃ t',t'<old∧D t' l'∧Cl old E F Bg p (keOf B E' p) x.par t' (clip p.r (c+1)):=by
  intro n x p t c l' h1 h2 h3 h4 h5 h6 h7 h8
  rcases S.was t h6 _ h8 with h9 | ⟨ws,w,c',l'',g1,g2,g3,g4,g5,g6⟩
  ·cases h9
  ·injection g4 with e1 e2;subst e1;subst e2
   refine⟨w.1,g6,g5,2 * w.2,G.f_cnt _ _ _ _ h7 h1 h2 h3 h4 h5 h6 _ g1 _ g2,c+1,?_,.inl rfl⟩;rw[Nat.testBit_succ,Nat.mul_div_cancel_left _ (by decide)];exact g3
 induction h with
 | root=>
   rintro rfl (⟨t,h1,h2,h3⟩ | ⟨x,p,t,c,l',h1,_⟩)
   ·exact .inl ⟨G.f_root _ h2,rfl⟩
   ·exact absurd rfl h1
 | next a1 a2 a3 a4 a5 a6 ih=>
   rename_i n x y l i0 k j0
   rintro rfl (⟨t,h1,h2,h3⟩ | ⟨x',p',t,c,l',h1,h2,h3,_⟩)
   ·obtain⟨p,nx,c,s1,s2⟩:=hsub _ _ a4
    have hE1:=G.f_next _ _ _ h2 a1 a2 a3;have hle:=way_le _ _ _ _ _ _ a5;by_cases hk:i0<k
    ·exact gone_way hB hE' G S _ s1 s2 a5 hk hE1 h3 a6
    ·obtain rfl:k=i0:=Nat.le_antisymm (Nat.not_lt.1 hk) hle
     by_cases he:emptyE B E' y.r=true
     ·exact ih rfl (.inl ⟨t,h1,gone_empty G _ s1 s2 he hE1,h3⟩)
     ·exact gone_end hB G S _ s1 s2 (by simpa using he) a5 hE1 h3 a6
   ·rw[a2] at h2;injection h2 with h2;subst h2;exact absurd h3 a3
 | up a1 a2 a3 a4 a5 a6 ih=>
   rintro rfl (⟨t,h1,h2,h3⟩ | ⟨x',p',t,c,l',h1,h2,h3,h4,h5,_⟩)
   ·exact ih rfl (.inl ⟨t,h1,(G.f_up _ _ _ _ h2 a1 a2 a3 a4 a5).1,h3⟩)
   ·rw[a2] at h2;injection h2 with h2;subst h2;rw[a4] at h4;injection h4 with h4;subst h4;exact absurd a5 h5
 | again a1 a2 a3 a4 a5 a6 a7 a8 a9 ih=>
   rename_i n x p l i0 k j0
   rintro rfl (⟨t,h1,h2,h3⟩ | ⟨x',p',t,c,l',h1,h2,h3,h4,h5,_⟩)
   ·obtain⟨p,nx,c,s1,s2⟩:=hsub _ _ a2
    have hE1:=(G.f_up _ _ _ _ h2 a1 a2 a3 a4 a5).2 a6 a7;have hle:=way_le _ _ _ _ _ _ a8;by_cases hk:i0<k
    ·exact gone_way hB hE' G S _ s1 s2 a8 hk hE1 h3 a9
    ·obtain rfl:k=i0:=Nat.le_antisymm (Nat.not_lt.1 hk) hle
     exact ih rfl (.inl ⟨t,h1,h2,h3⟩)
   ·rw[a2] at h2;injection h2 with h2;subst h2;rw[a4] at h4;injection h4 with h4;subst h4;exact absurd a5 h5
 | done a1 a2 a3 a4 a5 a6 a7 a8 ih=>
   rename_i n c x p l i0 j0
   intro hi hh;subst hi
   have:∃ t,t<old∧D t l∧Cl old E F Bg p (keOf B E' p) x.par t (clip p.r (c+1)):=by
    rcases hh with ⟨t,h1,h2,h3⟩ | ⟨x',p',t,c',l',h1,h2,h3,h4,h5,h6,h7,h8,h9⟩
    ·exact cnt a1 a2 a3 a4 a5 h1 h2 h3
    ·rw[a2] at h2;injection h2 with h2;subst h2;rw[a4] at h4;injection h4 with h4;subst h4
     injection h8 with e1 e2;subst e1;subst e2
     exact⟨t,h6,h7,h9⟩
   obtain⟨t,h1,h2,ts,h3,h4⟩:=this;exact ih rfl (.inl ⟨t,h1,(h3 _ ⟨clip_top1 a7,h4⟩).1 (lo_clip a6),h2⟩)
 | more a1 a2 a3 a4 a5 a6 a7 a8 ih=>
   rename_i n c x p l i0 k j0
   intro hi hh;subst hi
   have:∃ t,t<old∧D t l∧Cl old E F Bg p (keOf B E' p) x.par t (clip p.r (c+1)):=by
    rcases hh with ⟨t,h1,h2,h3⟩ | ⟨x',p',t,c',l',h1,h2,h3,h4,h5,h6,h7,h8,h9⟩
    ·exact cnt a1 a2 a3 a4 a5 h1 h2 h3
    ·rw[a2] at h2;injection h2 with h2;subst h2;rw[a4] at h4;injection h4 with h4;subst h4
     injection h8 with e1 e2;subst e1;subst e2
     exact⟨t,h6,h7,h9⟩
   obtain⟨t,h1,h2,ts,h3,jj,h4,h5⟩:=this;obtain⟨hk1,hk2⟩:=hkid _ _ _ a1 a2 a4 a5;have hke:keOf B E' p=emptyE B E' x.r:=by unfold keOf;rw[hk2,anyE,anyE];simp
   obtain⟨pp,nx,cc,s1,s2⟩:=hsub _ _ a2;have hle:=way_le _ _ _ _ _ _ a7;have h6:=(h3 _ ⟨(clip_lt a6).1,jj,h4,h5⟩).2 (clip_lt a6).2;have hD2:=S.new _ _ t _ l a4 a5 h6.1 h2;by_cases hk:i0<k
   ·exact gone_way hB hE' G S _ s1 s2 a7 hk (h6.2 _ hk1) hD2 (fin_clip a1 a2 a3 a4 a5 a8)
   ·obtain rfl:k=i0:=Nat.le_antisymm (Nat.not_lt.1 hk) hle
    by_cases he:emptyE B E' x.r=true
    ·refine ih rfl (.inr ⟨x,p,t,c+1,l,a1,a2,a3,a4,a5,h1,h2,rfl,ts,h3,jj,h4,.inr ⟨by rw[hke];exact he,?_⟩⟩)
     have:=clip_succ p.r (c+1)
     rcases h5 with h5 | ⟨_,h5⟩ <;> omega
    ·exact gone_end hB G S _ s1 s2 (by simpa using he) a7 (h6.2 _ hk1) hD2 (fin_clip a1 a2 a3 a4 a5 a8)
end
end
def negW (x:Nat):Nat:=(18446744073709551616 - x) % 18446744073709551616
def upTo (a:Nat):Nat:=a ||| negW (a &&& negW a)
def shutN (r:Re) (ts:Nat):Nat:=if r.hi<0∧1<ts >>> r.lo.toNat then ts ||| (1 <<< r.lo.toNat) else ts
def closN (r:Re) (ke:Bool) (ts:Nat):Nat:=(if ke=true then upTo (shutN r ts) else shutN r ts) &&& ((2 <<< topQ r) - 1)
def leftN (r:Re) (a:Nat):Nat:=if 0<r.hi then a ^^^ (a &&& (1 <<< r.hi.toNat)) else a
def upOk (x:Nat):Bool:=(List.range 10).all fun k=>(upTo x).testBit k==(List.range (k+1)).any fun j=>x.testBit j
def upAll:Nat→Bool
 | 0=>true
 | n+1=>upOk n && upAll n
theorem up_all:upAll 1024=true:=by decide+kernel
theorem up_ok:∀ {n x:Nat},upAll n=true→x<n→upOk x=true
 | 0,_,_,h=>by omega
 | n+1,x,h,hx=>by
   rw[upAll,Bool.and_eq_true] at h;by_cases hn:x=n
   ·subst hn;exact h.1
   ·exact up_ok h.2 (by omega)
theorem up_bit {x k:Nat} (hx:x<1024) (hk:k<10):(upTo x).testBit k=true ↔ ∃ j,j≤k∧x.testBit j=true:=by
 have h:=up_ok up_all hx;unfold upOk at h;rw[List.all_eq_true] at h;have h1:=h k (List.mem_range.2 hk);rw[beq_iff_eq] at h1;rw[h1,List.any_eq_true]
 constructor
 ·rintro⟨j,h2,h3⟩;exact⟨j,by have:=List.mem_range.1 h2;omega,h3⟩
 ·rintro⟨j,h2,h3⟩;exact⟨j,List.mem_range.2 (by omega),h3⟩
theorem shr_bit {x n:Nat}:x >>> n≠0 ↔ ∃ k,n≤k∧x.testBit k=true:=by
 constructor
 ·intro h
  obtain⟨j,hj⟩:=Nat.exists_testBit_of_ne_zero h;rw[Nat.testBit_shiftRight] at hj;exact⟨n+j,by omega,hj⟩
 ·rintro⟨k,h1,h2⟩ h3
  have:(x >>> n).testBit (k - n)=true:=by rw[Nat.testBit_shiftRight,show n+(k - n)=k by omega];exact h2
  rw[h3] at this;simp at this
theorem shr_bit1 {x n:Nat}:1<x >>> n ↔ ∃ k,n<k∧x.testBit k=true:=by
 constructor
 ·intro h
  have:x >>> (n+1)≠0:=by
   have e:x >>> (n+1)=(x >>> n) / 2:=Nat.shiftRight_succ x n;omega
  obtain⟨k,h1,h2⟩:=shr_bit.1 this;exact⟨k,by omega,h2⟩
 ·rintro⟨k,h1,h2⟩
  have h3:x >>> (n+1)≠0:=shr_bit.2 ⟨k,by omega,h2⟩;have e:x >>> (n+1)=(x >>> n) / 2:=Nat.shiftRight_succ x n;rw[e] at h3;generalize x >>> n=y at *;omega
def Bds (r:Re):Prop:=0≤r.lo∧r.lo≤8∧(r.hi= -1∨r.lo≤r.hi∧r.hi≤8)
theorem top_le {r:Re} (h:Bds r):topQ r≤8:=by unfold Bds at h;unfold topQ;split <;> omega
theorem shut_bit {r:Re} {ts k:Nat}:(shutN r ts).testBit k=true ↔ ts.testBit k=true∨(r.hi<0∧k=r.lo.toNat∧∃ j,r.lo.toNat<j∧ts.testBit j=true):=by
 unfold shutN;by_cases h:r.hi<0∧1<ts >>> r.lo.toNat
 ·rw[if_pos h,Nat.testBit_or,Bool.or_eq_true,Nat.one_shiftLeft,Nat.testBit_two_pow]
  constructor
  ·rintro(h1 | h1)
   ·exact .inl h1
   ·exact .inr ⟨h.1,by have:=of_decide_eq_true h1;omega,shr_bit1.1 h.2⟩
  ·rintro(h1 | ⟨_,h1,_⟩)
   ·exact .inl h1
   ·right;subst h1;simp
 ·rw[if_neg h]
  constructor
  ·exact .inl
  ·rintro(h1 | ⟨h1,h2,h3⟩)
   ·exact h1
   ·exact absurd ⟨h1,shr_bit1.2 h3⟩ h
theorem shut_lt {r:Re} (h:Bds r) {ts:Nat} (ht:ts<1024):shutN r ts<1024:=by
 unfold shutN;unfold Bds at h
 split
 ·refine Nat.or_lt_two_pow (n:=10) ht ?_
  rw[Nat.one_shiftLeft];exact Nat.pow_lt_pow_right (by decide) (by omega)
 ·exact ht
theorem clos_bit {r:Re} (h:Bds r) {ke:Bool} {ts k:Nat} (ht:ts<1024):(closN r ke ts).testBit k=true ↔ inClos r ke ts k:=by
 have htop:=top_le h
 have hm:((2 <<< topQ r) - 1).testBit k=decide (k<topQ r+1):=by
  have:2 <<< topQ r=2 ^ (topQ r+1):=by rw[Nat.shiftLeft_eq,Nat.pow_succ];omega
  rw[this,Nat.testBit_two_pow_sub_one]
 unfold closN inClos;rw[Nat.testBit_and,Bool.and_eq_true,hm,decide_eq_true_eq]
 have hcl:∀ j k,clip r j=k→ts.testBit j=true→(shutN r ts).testBit k=true:=by
  intro j k h1 h3;rw[shut_bit];unfold clip at h1
  split at h1
  ·rename_i h4;exact .inr ⟨h4.1,h1.symm,j,h4.2,h3⟩
  ·subst h1;exact .inl h3
 have hlc:∀ q,q≤topQ r→(shutN r ts).testBit q=true→∃ j,ts.testBit j=true∧clip r j=q:=by
  intro q hq h1;rw[shut_bit] at h1
  rcases h1 with h1 | ⟨h1,h2,j,h3,h4⟩
  ·refine⟨q,h1,?_⟩
   unfold clip topQ at *
   split
   ·rename_i h5;rw[if_pos h5.1] at hq;omega
   ·rfl
  ·exact⟨j,h4,by unfold clip;rw[if_pos ⟨h1,h3⟩,h2]⟩
 constructor
 ·rintro⟨h1,h2⟩
  refine⟨by omega,?_⟩
  split at h1
  ·rename_i hke
   rw[up_bit (shut_lt h ht) (by omega)] at h1;obtain⟨q,h3,h4⟩:=h1;obtain⟨j,h5,h6⟩:=hlc q (by omega) h4;exact⟨j,h5,.inr ⟨hke,by omega⟩⟩
  ·obtain⟨j,h5,h6⟩:=hlc k (by omega) h1
   exact⟨j,h5,.inl h6⟩
 ·rintro⟨h1,j,h2,h3⟩
  refine⟨?_,by omega⟩
  split
  ·rw[up_bit (shut_lt h ht) (by omega)]
   rcases h3 with h3 | ⟨_,h3⟩
   ·exact⟨k,Nat.le_refl _,hcl j k h3 h2⟩
   ·exact⟨clip r j,h3,hcl j _ rfl h2⟩
  ·rename_i hke
   rcases h3 with h3 | ⟨h3,_⟩
   ·exact hcl j k h3 h2
   ·exact absurd h3 hke
theorem clos_lt {r:Re} (h:Bds r) {ke:Bool} {ts:Nat}:closN r ke ts<512:=by
 unfold closN;refine Nat.lt_of_le_of_lt Nat.and_le_right ?_;have:=top_le h;have e:2 <<< topQ r=2 ^ (topQ r+1):=by rw[Nat.shiftLeft_eq,Nat.pow_succ];omega
 have:2 ^ (topQ r+1)≤2 ^ 9:=Nat.pow_le_pow_right (by decide) (by omega);rw[e];omega
theorem left_bit {r:Re} {a k:Nat}:(leftN r a).testBit k=true ↔ a.testBit k=true∧¬ (0<r.hi∧k=r.hi.toNat):=by
 unfold leftN
 split
 ·rename_i h
  rw[Nat.testBit_xor,Nat.testBit_and,Nat.one_shiftLeft,Nat.testBit_two_pow];by_cases hk:k=r.hi.toNat
  ·subst hk;simp[h]
  ·have:¬ r.hi.toNat=k:=fun h=>hk h.symm
   simp[hk,this]
 ·rename_i h
  exact⟨fun h1=>⟨h1,fun h2=>h h2.1⟩,fun h1=>h1.1⟩
theorem left_le {r:Re} {a:Nat}:leftN r a≤a:=by
 unfold leftN
 split
 ·refine Nat.le_of_testBit ?_
  intro k h;rw[Nat.testBit_xor,Nat.testBit_and] at h
  revert h;cases a.testBit k <;> simp
 ·exact Nat.le_refl _
section
structure LS where
 did:List Nat
 begun:List (List Nat)
 waits:List (Nat × Nat)
 over:Bool
structure Pm where
 T:List Nd
 B:Bool
 E:Bool
 old:Nat
 tc:Turns
 C:Nat
def Pm.all (Q:Pm):Nat:=Q.old+Q.C
def at_ (Q:Pm) (S:LS) (n t:Nat):Nat:=(S.did[t * Q.T.length+n]?).getD 0
def has (Q:Pm) (S:LS) (n t w:Nat):Prop:=at_ Q S n t &&& w≠0
def mark (Q:Pm) (S:LS) (n t w:Nat):LS:={ S with did:=S.did.set (t * Q.T.length+n) (at_ Q S n t ||| w) }
def wait (S:LS) (n t:Nat):LS:={ S with waits:=S.waits++[(n,t)] }
def ends (S:LS):LS:={ S with over:=true }
def addB (S:LS) (c t ts:Nat) (arr:List Nat):LS:={ S with begun:=S.begun.set c (arr.set t ((arr[t]?).getD 0 ||| ts)) }
inductive Tk where
 | ent (n t:Nat) | fin (n t:Nat) | rep (n t:Nat) | ftn (n t:Nat) | beg (n t ts:Nat) | btn (n t ts:Nat)
 | ents (l:List Nat) (t:Nat) | begs (n:Nat) (l:List (Nat × Nat))
inductive Run (Q:Pm):Tk→LS→LS→Prop
 | ent_old {n t:Nat} {S:LS}:has Q S n t 1→Run Q (.ent n t) S S
 | ent_set {n t:Nat} {S:LS} {x:Nd}:¬ has Q S n t 1→Q.T[n]?=some x→x.r.kind=1→t * Q.T.length+n<S.did.length→Run Q (.ent n t) S (wait (mark Q S n t 1) n t)
 | ent_end {n t:Nat} {S:LS} {x:Nd}:¬ has Q S n t 1→Q.T[n]?=some x→x.r.kind=3→Q.E=false→t * Q.T.length+n<S.did.length→Run Q (.ent n t) S (wait (mark Q S n t 1) n t)
 | ent_fin {n t:Nat} {S S':LS} {x:Nd}:¬ has Q S n t 1→Q.T[n]?=some x→x.r.kind=3→Q.E=true→Run Q (.fin n t) (mark Q S n t 1) S'→Run Q (.ent n t) S S'
 | ent_rep {n t:Nat} {S S':LS} {x:Nd}:¬ has Q S n t 1→Q.T[n]?=some x→x.r.kind=6→Run Q (.rep n t) (mark Q S n t 1) S'→Run Q (.ent n t) S S'
 | ent_cat {n t:Nat} {S S':LS} {x:Nd} {k:Nat} {l:List Nat}:¬ has Q S n t 1→Q.T[n]?=some x→x.r.kind=4→x.kids=k::l→Run Q (.ent k t) (mark Q S n t 1) S'→Run Q (.ent n t) S S'
 | ent_alt {n t:Nat} {S S':LS} {x:Nd}:¬ has Q S n t 1→Q.T[n]?=some x→(x.r.kind=5∨x.r.kind=7)→Run Q (.ents x.kids t) (mark Q S n t 1) S'→Run Q (.ent n t) S S'
 | ent_emp {n t:Nat} {S S':LS} {x:Nd}:¬ has Q S n t 1→Q.T[n]?=some x→(x.r.kind=0∨x.r.kind=2)→emptyE Q.B Q.E x.r=true→Run Q (.fin n t) (mark Q S n t 1) S'→Run Q (.ent n t) S S'
 | ent_not {n t:Nat} {S:LS} {x:Nd}:¬ has Q S n t 1→Q.T[n]?=some x→(x.r.kind=0∨x.r.kind=2)→emptyE Q.B Q.E x.r=false→Run Q (.ent n t) S (mark Q S n t 1)
 | ents_nil {t:Nat} {S:LS}:Run Q (.ents [] t) S S
 | ents_cons {k t:Nat} {l:List Nat} {S S1 S':LS}:Run Q (.ent k t) S S1→Run Q (.ents l t) S1 S'→Run Q (.ents (k::l) t) S S'
 | rep_cnt {n t:Nat} {S S':LS} {x:Nd}:Q.T[n]?=some x→x.cn≠0→Run Q (.beg n t 1) S S'→Run Q (.rep n t) S S'
 | rep_pln {n t k:Nat} {S S1 S':LS} {x:Nd}:Q.T[n]?=some x→x.cn=0→x.kids=[k]→(x.r.hi≠0→Run Q (.ent k t) S S1)→(x.r.hi=0→S1=S)→(x.r.lo=0→Run Q (.fin n t) S1 S')→(x.r.lo≠0→S'=S1)→Run Q (.rep n t) S S'
 | fin_old {n t:Nat} {S:LS}:has Q S n t 2→Run Q (.fin n t) S S
 | fin_root {t:Nat} {S:LS}:¬ has Q S 0 t 2→Run Q (.fin 0 t) S (ends (mark Q S 0 t 2))
 | fin_next {n t:Nat} {S S':LS} {x:Nd}:¬ has Q S n t 2→n≠0→Q.T[n]?=some x→x.nx≠0→Run Q (.ent x.nx t) (mark Q S n t 2) S'→Run Q (.fin n t) S S'
 | fin_cnt {n t:Nat} {S S':LS} {x p:Nd}:¬ has Q S n t 2→n≠0→Q.T[n]?=some x→x.nx=0→Q.T[x.par]?=some p→p.cn≠0→Run Q (.ftn x.par t) (mark Q S n t 2) S'→Run Q (.fin n t) S S'
 | fin_up {n t:Nat} {S S1 S':LS} {x p:Nd}:¬ has Q S n t 2→n≠0→Q.T[n]?=some x→x.nx=0→Q.T[x.par]?=some p→p.cn=0→Run Q (.fin x.par t) (mark Q S n t 2) S1→
  (p.r.kind=6∧p.r.hi<0→Run Q (.ent n t) S1 S')→(¬ (p.r.kind=6∧p.r.hi<0)→S'=S1)→Run Q (.fin n t) S S'
 | ftn_new {n t:Nat} {S:LS}:Q.old≤t→Run Q (.ftn n t) S S
 | ftn_old {n t:Nat} {S S':LS} {l:List (Nat × Nat)}:t<Q.old→Q.tc[t]?=some l→Run Q (.begs n l) S S'→Run Q (.ftn n t) S S'
 | begs_nil {n:Nat} {S:LS}:Run Q (.begs n []) S S
 | begs_cons {n:Nat} {w:Nat × Nat} {l:List (Nat × Nat)} {S S1 S':LS}:Run Q (.beg n w.1 (2 * w.2)) S S1→Run Q (.begs n l) S1 S'→Run Q (.begs n (w::l)) S S'
 | beg {n t ts:Nat} {S S1 S':LS} {x:Nd}:Q.T[n]?=some x→x.cn≠0→
  (closN x.r (keOf Q.B Q.E x) ts >>> x.r.lo.toNat≠0→Run Q (.fin n t) S S1)→(closN x.r (keOf Q.B Q.E x) ts >>> x.r.lo.toNat=0→S1=S)→
  (leftN x.r (closN x.r (keOf Q.B Q.E x) ts)≠0→Run Q (.btn n t (leftN x.r (closN x.r (keOf Q.B Q.E x) ts))) S1 S')→(leftN x.r (closN x.r (keOf Q.B Q.E x) ts)=0→S'=S1)→Run Q (.beg n t ts) S S'
 | btn_old {n t ts:Nat} {S:LS} {x:Nd} {arr:List Nat}:Q.T[n]?=some x→x.cn≠0→S.begun[x.cn - 1]?=some arr→arr≠[]→Run Q (.btn n t ts) S (addB S (x.cn - 1) t ts arr)
 | btn_new {n t ts k:Nat} {S S':LS} {x:Nd}:Q.T[n]?=some x→x.cn≠0→S.begun[x.cn - 1]?=some []→x.kids=[k]→Run Q (.ent k (Q.old+x.cn - 1)) (addB S (x.cn - 1) t ts (List.replicate Q.all 0)) S'→Run Q (.btn n t ts) S S'
section
variable (Q:Pm) (s:Bs) (b e:Bool) (i:Nat) (Base:Nat→Prop) (D0:Nat→List Nat→Prop)
def SNew (t:Nat) (l:List Nat):Prop:=∃ n x m y k l',Q.T[n]?=some x∧x.cn≠0∧t=Q.old+x.cn - 1∧x.kids=[m]∧Q.T[m]?=some y∧l=k::l'∧∀ j,Cnt Q.T s b e n x m y l' k i j→Base j
def Dn (t:Nat) (l:List Nat):Prop:=if t<Q.old then D0 t l else SNew Q s b e i Base t l
def SndE (n t:Nat):Prop:=(∃ l,Dn Q s b e i Base D0 t l)∧∀ x,Q.T[n]?=some x→∀ l,Dn Q s b e i Base D0 t l→∀ k j,Way s b e x.r i k→Fin Q.T s b e n l k j→Base j
def SndF (n t:Nat):Prop:=(∃ l,Dn Q s b e i Base D0 t l)∧∀ l,Dn Q s b e i Base D0 t l→∀ j,Fin Q.T s b e n l i j→Base j
def SndB (n t k:Nat):Prop:=(∃ l,Dn Q s b e i Base D0 t l)∧∀ x,Q.T[n]?=some x→∀ m,x.kids=[m]→∀ y,Q.T[m]?=some y→∀ l,Dn Q s b e i Base D0 t l→∀ j,Cnt Q.T s b e n x m y l k i j→Base j
def SndT:Tk→Prop
 | .ent n t=>SndE Q s b e i Base D0 n t
 | .fin n t=>SndF Q s b e i Base D0 n t
 | .rep n t=>SndE Q s b e i Base D0 n t∧∃ x,Q.T[n]?=some x∧x.r.kind=6
 | .ftn n t=>(∃ x,Q.T[n]?=some x∧x.cn≠0)∧(∃ l,Dn Q s b e i Base D0 t l)∧∀ x,Q.T[n]?=some x→∀ m,x.kids=[m]→∀ l,Dn Q s b e i Base D0 t l→∀ j,Fin Q.T s b e m l i j→Base j
 | .beg n t ts=>ts<1024∧(∃ k,ts.testBit k=true)∧∀ k,ts.testBit k=true→SndB Q s b e i Base D0 n t k
 | .btn n t ts=>(∃ k,ts.testBit k=true)∧∀ k,ts.testBit k=true→SndB Q s b e i Base D0 n t k
 | .ents l t=>∀ k,k∈l→SndE Q s b e i Base D0 k t
 | .begs n l=>∀ w,w∈l→w.2<512∧(∃ k,w.2.testBit k=true)∧∀ k,w.2.testBit k=true→SndB Q s b e i Base D0 n w.1 (k+1)
structure SndS (S:LS):Prop where
 waits:∀ n t,(n,t)∈S.waits→SndE Q s b e i Base D0 n t∧∃ x,Q.T[n]?=some x∧(x.r.kind=1∨(x.r.kind=3∧Q.E=false))
 over:S.over=true→Base i
 begun:∀ n x,Q.T[n]?=some x→x.cn≠0→∀ arr,S.begun[x.cn - 1]?=some arr→∀ t ts,arr[t]?=some ts→∀ k,ts.testBit k=true→SndB Q s b e i Base D0 n t k
end
structure TabOk (T:List Nd):Prop where
 sub:∀ (n:Nat) (x:Nd),T[n]?=some x→∃ p nx c,Sub T n x.r p nx c∧Fine x.r
 par:∀ (n:Nat) (x:Nd),n≠0→T[n]?=some x→∃ p,T[x.par]?=some p∧n∈p.kids∧x.par<n∧(p.cn≠0→x.nx=0∧p.kids=[n]∧p.r.kids=[x.r])
 one:∀ (n n':Nat) (x x':Nd),T[n]?=some x→T[n']?=some x'→x.cn≠0→x.cn=x'.cn→n=n'
 root:∃ x,T[0]?=some x
theorem TabOk.nd {T:List Nd} (h:TabOk T) {n:Nat} {x:Nd} (hx:T[n]?=some x):∃ p nx c,x=ndOf x.r n p nx c∧Sub T n x.r p nx c∧Fine x.r:=by
 obtain⟨p,nx,c,h1,h2⟩:=h.sub n x hx;have:=sub_at h1;rw[hx] at this;injection this with this
 exact⟨p,nx,c,this,h1,h2⟩
theorem TabOk.kid1 {T:List Nd} (h:TabOk T) {n:Nat} {x:Nd} (hx:T[n]?=some x) (h6:x.r.kind=6):∃ y,x.kids=[n+1]∧T[n+1]?=some y∧x.r.kids=[y.r]∧y.nx=0∧y.par=n∧Bds x.r:=by
 obtain⟨p,nx,c,h1,h2,h3⟩:=h.nd hx;have hc:=h3.cases;simp only[h6] at hc;obtain⟨hk,hb1,hb2,hb3⟩:(∃ y,x.r.kids=[y])∧0≤x.r.lo∧x.r.lo≤8∧(x.r.hi= -1∨x.r.lo≤x.r.hi∧x.r.hi≤8):=by simpa using hc
 obtain⟨y,hk⟩:=hk;obtain⟨c',h4⟩:=sub_kid1 h2 hk;refine⟨ndOf y (n+1) n 0 c',?_,sub_at h4,hk,rfl,rfl,hb1,hb2,hb3⟩;rw[h1];show kidsAt (n+1) x.r.kids=_;rw[hk,kidsAt,kidsAt]
theorem cn_6 {T:List Nd} (h:TabOk T) {n:Nat} {x:Nd} (hx:T[n]?=some x) (hc:x.cn≠0):x.r.kind=6:=by
 obtain⟨p,nx,c,h1,_,_⟩:=h.nd hx;rw[h1] at hc;exact(cn_rep hc).1
theorem row_fin {T:List Nd} {s:Bs} {b e:Bool} {n:Nat} {p:Nd} (hp:T[n]?=some p) (hc:p.cn=0) (h6:p.r.kind≠6) {σ:List Nat} {j:Nat}:∀ {l:List Re} {a c:Nat} {x:Re} {m:Nat},
  SubL T a (x::l) true n c→0<a→Fin T s b e a σ m j→∃ k,WayL s b e l m k∧Fin T s b e n σ k j
 | [],a,c,x,m,h,ha,hf=>by
   obtain⟨h1,_⟩:=subL_cons h;have hx:=sub_at h1;have h0:(ndOf x a n (if true=true∧([]:List Re)≠[] then a+sizeE x else 0) c).nx=0:=by simp[ndOf]
   cases hf with
   | root=>omega
   | next a1 a2 a3=>rw[hx] at a2;injection a2 with a2;rw[←a2] at a3;exact absurd h0 a3
   | up a1 a2 a3 a4 a5 a6=>
     rw[hx] at a2;injection a2 with a2;subst a2
     exact⟨m,by rw[WayL],a6⟩
   | again a1 a2 a3 a4 a5 a6=>
     rw[hx] at a2;injection a2 with a2;subst a2
     change T[n]?=_ at a4;rw[hp] at a4;injection a4 with a4;subst a4;exact absurd a6 h6
   | done a1 a2 a3 a4 a5=>
     rw[hx] at a2;injection a2 with a2;subst a2
     change T[n]?=_ at a4;rw[hp] at a4;injection a4 with a4;subst a4;exact absurd hc a5
   | more a1 a2 a3 a4 a5=>
     rw[hx] at a2;injection a2 with a2;subst a2
     change T[n]?=_ at a4;rw[hp] at a4;injection a4 with a4;subst a4;exact absurd hc a5
 | y::l,a,c,x,m,h,ha,hf=>by
   obtain⟨h1,h2⟩:=subL_cons h;have hx:=sub_at h1;have hz:=sizeE_pos x;have h0:(ndOf x a n (if true=true∧(y::l)≠[] then a+sizeE x else 0) c).nx=a+sizeE x:=by simp[ndOf]
   cases hf with
   | root=>omega
   | next a1 a2 a3 a4 a5 a6=>
     rw[hx] at a2;injection a2 with a2;subst a2
     rw[h0] at a4 a6;obtain⟨h3,_⟩:=subL_cons h2;rw[sub_at h3] at a4;injection a4 with a4;subst a4
     obtain⟨k,k1,k2⟩:=row_fin hp hc h6 h2 (by omega) a6;exact⟨k,by rw[WayL];exact⟨_,a5,k1⟩,k2⟩
   | up a1 a2 a3=>rw[hx] at a2;injection a2 with a2;rw[←a2,h0] at a3;omega
   | again a1 a2 a3=>rw[hx] at a2;injection a2 with a2;rw[←a2,h0] at a3;omega
   | done a1 a2 a3=>rw[hx] at a2;injection a2 with a2;rw[←a2,h0] at a3;omega
   | more a1 a2 a3=>rw[hx] at a2;injection a2 with a2;rw[←a2,h0] at a3;omega
theorem star_fin {T:List Nd} {s:Bs} {b e:Bool} {n:Nat} {x p:Nd} (hn:n≠0) (hx:T[n]?=some x) (h0:x.nx=0) (hp:T[x.par]?=some p) (hc:p.cn=0) {σ:List Nat} {m j:Nat}
  (h:Fin T s b e n σ m j):∃ v k,(0<v→p.r.kind=6∧p.r.hi<0)∧TimesW (Way s b e x.r) v m k∧Fin T s b e x.par σ k j:=by
 generalize hN:n=N at h
 induction h with
 | root=>exact absurd hN hn
 | next a1 a2 a3=>subst hN;rw[hx] at a2;injection a2 with a2;subst a2;exact absurd h0 a3
 | up a1 a2 a3 a4 a5 a6=>
   subst hN;rw[hx] at a2;injection a2 with a2;subst a2
   exact⟨0,_,fun h=>by omega,rfl,a6⟩
 | again a1 a2 a3 a4 a5 a6 a7 a8 a9 ih=>
   obtain⟨v,k,h1,h2,h3⟩:=ih hN;subst hN;rw[hx] at a2;injection a2 with a2;subst a2
   rw[hp] at a4;injection a4 with a4;subst a4
   exact⟨v+1,k,fun _=>⟨a6,a7⟩,by rw[TimesW];exact⟨_,a8,h2⟩,h3⟩
 | done a1 a2 a3 a4 a5=>
   subst hN;rw[hx] at a2;injection a2 with a2;subst a2
   rw[hp] at a4;injection a4 with a4;subst a4;exact absurd hc a5
 | more a1 a2 a3 a4 a5=>
   subst hN;rw[hx] at a2;injection a2 with a2;subst a2
   rw[hp] at a4;injection a4 with a4;subst a4;exact absurd hc a5
theorem cnt_times {T:List Nd} {s:Bs} {b e:Bool} {n:Nat} {x p:Nd} (hn:n≠0) (hx:T[n]?=some x) (h0:x.nx=0) (hp:T[x.par]?=some p) (hc:p.cn≠0) {σ:List Nat} {c m j:Nat}
  (h:Fin T s b e n (c::σ) m j):∃ v k:Nat,p.r.lo≤(c:Int)+1+v∧(p.r.hi<0∨(c:Int)+1+v≤p.r.hi)∧TimesW (Way s b e x.r) v m k∧Fin T s b e x.par σ k j:=by
 generalize hN:n=N at h;generalize hl:c::σ=L at h
 induction h generalizing c with
 | root=>exact absurd hN hn
 | next a1 a2 a3=>subst hN;rw[hx] at a2;injection a2 with a2;subst a2;exact absurd h0 a3
 | up a1 a2 a3 a4 a5=>subst hN;rw[hx] at a2;injection a2 with a2;subst a2;rw[hp] at a4;injection a4 with a4;subst a4;exact absurd a5 hc
 | again a1 a2 a3 a4 a5=>subst hN;rw[hx] at a2;injection a2 with a2;subst a2;rw[hp] at a4;injection a4 with a4;subst a4;exact absurd a5 hc
 | done a1 a2 a3 a4 a5 a6 a7 a8=>
   subst hN;injection hl with q1 q2;subst q1;subst q2
   rw[hx] at a2;injection a2 with a2;subst a2;rw[hp] at a4;injection a4 with a4;subst a4
   exact⟨0,_,by omega,by omega,rfl,a8⟩
 | more a1 a2 a3 a4 a5 a6 a7 a8 ih=>
   injection hl with q1 q2;subst q1;subst q2
   obtain⟨v,k,h1,h2,h3,h4⟩:=ih hN rfl;subst hN;rw[hx] at a2;injection a2 with a2;subst a2;rw[hp] at a4;injection a4 with a4;subst a4
   exact⟨v+1,k,by omega,by omega,by rw[TimesW];exact⟨_,a7,h3⟩,h4⟩
theorem cnt_fin {T:List Nd} {s:Bs} {b e:Bool} {n:Nat} {x p:Nd} (hn:n≠0) (hx:T[n]?=some x) (h0:x.nx=0) (hp:T[x.par]?=some p) (hc:p.cn≠0) {l:List Nat} {k i j:Nat}
  (h:Cnt T s b e x.par p n x l (k+1) i j):Fin T s b e n (k::l) i j:=by
 rcases h with ⟨h1,h2,h3⟩ | ⟨h1,q,h2,h3⟩
 ·exact .done hn hx h0 hp hc (by omega) (by omega) h3
 ·exact .more hn hx h0 hp hc (by omega) h2 h3
end
end Go.Proofs.YtiafefjaldcpbaaDoor
