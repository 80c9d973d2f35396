import Derived.Test.YtiafefjaldcpbaaDoorV10
namespace Go.Proofs.YtiafefjaldcpbaaDoor
open Go Go.RowKit
inductive InT (tc:Turns):Nat→List Nat→Prop
 | zero:InT tc 0 []
 | step {t:Nat} {ws:List (Nat × Nat)} {w:Nat × Nat} {c:Nat} {l:List Nat}:tc[t]?=some ws→w∈ws→w.2.testBit c=true→InT tc w.1 l→InT tc t (c::l)
structure TurnsOk (tc:Turns):Prop where
 zero:tc[0]?=some []
 cons:∀ (t:Nat) (ws:List (Nat × Nat)),tc[t]?=some ws→∀ w,w∈ws→w.1<t∧w.2<512∧w.2≠0
 some:∀ (t:Nat) (ws:List (Nat × Nat)),tc[t]?=some ws→t≠0→ws≠[]
structure MS where
 waits:List (Nat × Nat)
 turns:Turns
 over:Bool
def S0 (Q:Pm):LS:=⟨List.replicate (Q.all * Q.T.length) 0,List.replicate Q.C [],[],false⟩
inductive RunW (Q:Pm) (P:Nd→Bool):List (Nat × Nat)→LS→LS→Prop
 | nil {S:LS}:RunW Q P [] S S
 | skip {w:Nat × Nat} {l:List (Nat × Nat)} {x:Nd} {S S':LS}:Q.T[w.1]?=some x→P x=false→RunW Q P l S S'→RunW Q P (w::l) S S'
 | take {w:Nat × Nat} {l:List (Nat × Nat)} {x:Nd} {S S1 S':LS}:Q.T[w.1]?=some x→P x=true→Run Q (.fin w.1 w.2) S S1→RunW Q P l S1 S'→RunW Q P (w::l) S S'
def newT (arr:List Nat):List (Nat × Nat):=(List.range arr.length).filterMap fun t=>match arr[t]? with
 | some ts=>if ts=0 then none else some (t,ts)
 | none=>none
def allT (tc:Turns) (S:LS):Turns:=tc++S.begun.map newT
theorem newT_mem {arr:List Nat} {w:Nat × Nat}:w∈newT arr ↔ arr[w.1]?=some w.2∧w.2≠0:=by
 unfold newT;rw[List.mem_filterMap]
 constructor
 ·rintro⟨t,h1,h2⟩
  rw[List.mem_range] at h1;rw[List.getElem?_eq_getElem h1] at h2;simp only at h2
  split at h2
  ·cases h2
  ·injection h2 with h2;subst h2
   exact⟨List.getElem?_eq_getElem h1,by assumption⟩
 ·rintro⟨h1,h2⟩
  refine⟨w.1,List.mem_range.2 (List.getElem?_eq_some_iff.1 h1).1,?_⟩;rw[h1];simp[h2]
theorem allT_old {tc:Turns} {S:LS} {t:Nat} (h:t<tc.length):(allT tc S)[t]?=tc[t]?:=by unfold allT;rw[List.getElem?_append_left h]
theorem allT_new {tc:Turns} {S:LS} {c:Nat}:(allT tc S)[tc.length+c]?=(S.begun[c]?).map newT:=by unfold allT;rw[List.getElem?_append_right (by omega)];simp
theorem inT_old {tc:Turns} {S:LS} (ht:TurnsOk tc) {t:Nat} {l:List Nat} (h:t<tc.length):InT (allT tc S) t l ↔ InT tc t l:=by
 constructor
 ·intro hi
  induction hi with
  | zero=>exact .zero
  | step h1 h2 h3 _ ih=>
    rw[allT_old h] at h1;have:=(ht.cons _ _ h1 _ h2).1;exact .step h1 h2 h3 (ih (by omega))
 ·intro hi
  induction hi with
  | zero=>exact .zero
  | step h1 h2 h3 _ ih=>
    have:=(ht.cons _ _ h1 _ h2).1;exact .step (by rw[allT_old h];exact h1) h2 h3 (ih (by omega))
theorem inT_any {tc:Turns} (ht:TurnsOk tc):∀ (n t:Nat),t≤n→t<tc.length→∃ l,InT tc t l:=by
 intro n
 induction n with
 | zero=>intro t h _;exact⟨[],by rw[show t=0 by omega];exact .zero⟩
 | succ n ih=>
   intro t h hl;by_cases h0:t=0
   ·subst h0;exact⟨[],.zero⟩
   ·have h1:=List.getElem?_eq_getElem hl
    have h2:=ht.some _ _ h1 h0;obtain⟨w,hw⟩:=List.exists_mem_of_ne_nil _ h2;obtain⟨a1,a2,a3⟩:=ht.cons _ _ h1 _ hw;obtain⟨k,hk⟩:=Nat.exists_testBit_of_ne_zero a3;obtain⟨l,hl'⟩:=ih w.1 (by omega) (by omega);exact⟨k::l,.step h1 hw hk hl'⟩
theorem fin_le {T:List Nd} {s:Bs} {b e:Bool} {n:Nat} {l:List Nat} {i j:Nat} (h:Fin T s b e n l i j):i≤j:=by
 induction h with
 | root=>exact Nat.le_refl _
 | next _ _ _ _ hw _ ih=>have:=way_le _ _ _ _ _ _ hw;omega
 | up _ _ _ _ _ _ ih=>exact ih
 | again _ _ _ _ _ _ _ hw _ ih=>have:=way_le _ _ _ _ _ _ hw;omega
 | done _ _ _ _ _ _ _ _ ih=>exact ih
 | more _ _ _ _ _ _ hw _ ih=>have:=way_le _ _ _ _ _ _ hw;omega
def pmOf (R:Re) (B E:Bool) (tc:Turns):Pm:=⟨tabE R 0 0 0 0,B,E,tc.length,tc,cntE R⟩
theorem tabC_of {R:Re} (hR:Fine R) {B E:Bool} {tc:Turns} (ht:TurnsOk tc):TabC (pmOf R B E tc):=by
 obtain⟨h1,h2,h3,h4⟩:=tab_ok hR;refine⟨h1,h2,h3,fun t ws hws w hw=>?_,rfl,h4⟩;obtain⟨a1,a2,_⟩:=ht.cons t ws hws w hw;have:t<tc.length:=(List.getElem?_eq_some_iff.1 hws).1;exact⟨by show w.1<tc.length;omega,a2⟩
theorem s0_ok (Q:Pm):OkS Q (S0 Q):=by
 refine⟨by simp[S0],by simp[S0],?_,?_⟩ <;>
 ·intro c arr h1 h2
  unfold S0 at h1;simp only[List.getElem?_replicate] at h1
  split at h1
  ·injection h1 with h1;exact absurd h1.symm h2
  ·cases h1
theorem s0_has (Q:Pm) (n t w:Nat):¬ has Q (S0 Q) n t w:=by
 unfold has at_ S0
 simp only[List.getElem?_replicate]
 split <;> simp
theorem s0_kid (Q:Pm):KidI Q (S0 Q):=by
 intro n x _ _ arr h1 h2;unfold S0 at h1;simp only[List.getElem?_replicate] at h1
 split at h1
 ·injection h1 with h1;exact absurd h1.symm h2
 ·cases h1
structure Looked (Q:Pm) (S':LS):Prop where
 ok:OkS Q S'
 allE:∀ n t,EE Q S' n t→OblE Q S' n t
 allF:∀ n t,FF Q S' n t→OblF Q S' n t
theorem Looked.gone {Q:Pm} {S:LS} (h:Looked Q S):Gone Q.T Q.B Q.E Q.old Q.tc (EE Q S) (FF Q S) (WW S) (BB Q S) (S.over=true) where
 e_set n t x hE hx:=(h.allE n t hE x hx).1
 e_end n t x hE hx:=(h.allE n t hE x hx).2.1
 e_cat n t x hE hx:=(h.allE n t hE x hx).2.2.1
 e_alt n t x hE hx:=(h.allE n t hE x hx).2.2.2.1
 e_rep n t x hE hx:=(h.allE n t hE x hx).2.2.2.2.1
 e_cnt n t x hE hx:=(h.allE n t hE x hx).2.2.2.2.2.1
 e_emp n t x hE hx:=(h.allE n t hE x hx).2.2.2.2.2.2
 f_root t hF:=(h.allF 0 t hF).1 rfl
 f_next n t x hF hn hx:=((h.allF n t hF).2 hn x hx).1
 f_up n t x p hF hn hx h0 hp:=(((h.allF n t hF).2 hn x hx).2 h0 p hp).1
 f_cnt n t x p hF hn hx h0 hp:=(((h.allF n t hF).2 hn x hx).2 h0 p hp).2
theorem runW_res {Q:Pm} (h:TabC Q) {P:Nd→Bool} {l:List (Nat × Nat)} {S S':LS} (hr:RunW Q P l S S'):(∀ w,w∈l→VN Q w.1 w.2)→OkS Q S→KidI Q S→
  OkS Q S'∧LeS Q S S'∧(∀ n t,EE Q S' n t→EE Q S n t∨OblE Q S' n t)∧(∀ n t,FF Q S' n t→FF Q S n t∨OblF Q S' n t)∧KidI Q S'∧∀ w,w∈l→∀ x,Q.T[w.1]?=some x→P x=true→FF Q S' w.1 w.2:=by
 induction hr with
 | nil=>intro _ ho hk;exact⟨ho,.refl _ _,fun _ _ h=> .inl h,fun _ _ h=> .inl h,hk,fun w hw=>by cases hw⟩
 | skip h1 h2 _ ih=>
   intro hv ho hk;obtain⟨a1,a2,a3,a4,a5,a6⟩:=ih (fun w hw=>hv w (List.mem_cons_of_mem _ hw)) ho hk;refine⟨a1,a2,a3,a4,a5,fun w hw x hx hp=>?_⟩
   rcases List.mem_cons.1 hw with rfl | hw
   ·rw[h1] at hx;injection hx with hx;subst hx;rw[h2] at hp;cases hp
   ·exact a6 w hw x hx hp
 | take h1 h2 h3 _ ih=>
   intro hv ho hk;have r:=run_closed h h3 (hv _ (List.mem_cons_self ..)) ho hk;obtain⟨a1,a2,a3,a4,a5,a6⟩:=ih (fun w hw=>hv w (List.mem_cons_of_mem _ hw)) r.ok r.kid;refine⟨a1,r.le.trans a2,chainE a2 r.newE a3,chainF a2 r.newF a4,a5,fun w hw x hx hp=>?_⟩
   rcases List.mem_cons.1 hw with rfl | hw
   ·exact r.goal.le a2
   ·exact a6 w hw x hx hp
theorem looked_of {Q:Pm} (h:TabC Q) {P:Nd→Bool} {l:List (Nat × Nat)} {S':LS} (hr:RunW Q P l (S0 Q) S') (hv:∀ w,w∈l→VN Q w.1 w.2):Looked Q S'∧∀ w,w∈l→∀ x,Q.T[w.1]?=some x→P x=true→FF Q S' w.1 w.2:=by
 obtain⟨a1,a2,a3,a4,a5,a6⟩:=runW_res h hr hv (s0_ok Q) (s0_kid Q);refine⟨⟨a1,fun n t hE=>?_,fun n t hF=>?_⟩,a6⟩
 ·rcases a3 n t hE with h1 | h1
  ·exact absurd h1.2 (s0_has Q n t 1)
  ·exact h1
 ·rcases a4 n t hF with h1 | h1
  ·exact absurd h1.2 (s0_has Q n t 2)
  ·exact h1
theorem looked_new {Q:Pm} (h:TabC Q) {S':LS} (hr:Run Q (.ent 0 0) (S0 Q) S') (hv:VN Q 0 0):Looked Q S'∧EE Q S' 0 0:=by
 have r:=run_closed h hr hv (s0_ok Q) (KidI.mark (s0_kid Q) (s0_ok Q) hv.1 (hv.lt h));refine⟨⟨r.ok,fun n t hE=>?_,fun n t hF=>?_⟩,r.goal⟩
 ·rcases r.newE n t hE with h1 | h1
  ·exact absurd h1.2 (s0_has Q n t 1)
  ·exact h1
 ·rcases r.newF n t hF with h1 | h1
  ·exact absurd h1.2 (s0_has Q n t 2)
  ·exact h1
theorem stands_of {R:Re} {B E:Bool} {tc:Turns} (ht:TurnsOk tc) {S:LS}:Stands (tabE R 0 0 0 0) tc.length tc (BB (pmOf R B E tc) S) (InT (allT tc S)):=by
 constructor
 ·intro t hlt l hi
  rw[inT_old ht hlt] at hi
  cases hi with
  | zero=>exact .inl rfl
  | step h1 h2 h3 h4=>
    have:=(ht.cons _ _ h1 _ h2).1;exact .inr ⟨_,_,_,_,h1,h2,h3,rfl,(inT_old ht (by omega)).2 h4,by omega⟩
 ·intro n x t k l hx hc hb hi
  obtain⟨x',hx',arr,ts,h1,h2,h3⟩:=hb
  change (tabE R 0 0 0 0)[n]?=some x' at hx'
  rw[hx] at hx';injection hx' with hx';subst hx'
  refine .step (ws:=newT arr) (w:=(t,ts)) ?_ (newT_mem.2 ⟨h2,fun h=>by change ts=0 at h;rw[h] at h3;simp at h3⟩) h3 hi;rw[show tc.length+x.cn - 1=tc.length+(x.cn - 1) by omega,allT_new,h1];rfl
theorem dn_of {R:Re} (hR:Fine R) {B E:Bool} {tc:Turns} (ht:TurnsOk tc) {s:Bs} {b e:Bool} {i:Nat} {Base:Nat→Prop} {S:LS} (ho:OkS (pmOf R B E tc) S) (hs:SndS (pmOf R B E tc) s b e i Base (InT tc) S) {t:Nat} {l:List Nat}
  (h:InT (allT tc S) t l):Dn (pmOf R B E tc) s b e i Base (InT tc) t l:=by
 induction h with
 | zero=>unfold Dn;rw[if_pos (by show 0<tc.length;exact(List.getElem?_eq_some_iff.1 ht.zero).1)];exact .zero
 | step h1 h2 h3 h4 ih=>
   rename_i t ws w c l
   by_cases hlt:t<tc.length
   ·unfold Dn;rw[if_pos (show t<(pmOf R B E tc).old from hlt)]
    exact(inT_old ht hlt).1 (.step h1 h2 h3 h4)
   ·obtain⟨d,rfl⟩:∃ d,t=tc.length+d:=⟨t - tc.length,by omega⟩
    rw[allT_new] at h1
    cases harr:S.begun[d]? with
    | none=>rw[harr] at h1;cases h1
    | some arr=>
      rw[harr] at h1;injection h1 with h1;subst h1
      obtain⟨g1,g2⟩:=newT_mem.1 h2;have hne:arr≠[]:=by intro h;subst h;simp at g1
      obtain⟨n,x,hx,hc,hd⟩:=ho.of _ _ harr hne;subst hd;obtain⟨y,k1,k2,k3,k4,k5,k6⟩:=(tab_ok hR).1.kid1 hx (cn_6 (tab_ok hR).1 hx hc);have:=hs.begun n x hx hc arr harr _ _ g1 c h3;unfold Dn;rw[if_neg (show ¬ tc.length+(x.cn - 1)<(pmOf R B E tc).old by show ¬ tc.length+(x.cn - 1)<tc.length;omega)];exact⟨n,x,n+1,y,c,l,hx,hc,by show _=tc.length+x.cn - 1;omega,k1,k2,rfl,fun j hj=>this.2 x hx _ k1 y k2 l ih j hj⟩
theorem was_of {R:Re} {B E:Bool} {tc:Turns} (ht:TurnsOk tc):Was (pmOf R B E tc) (InT tc):=by
 refine⟨rfl,fun t h=>inT_any ht t t (Nat.le_refl _) h,fun t ws h w hw=>?_⟩;obtain⟨a1,a2,a3⟩:=ht.cons t ws h w hw;have:t<tc.length:=(List.getElem?_eq_some_iff.1 h).1;exact⟨by show w.1<tc.length;omega,a2,Nat.exists_testBit_of_ne_zero a3,fun k hk l hl=> .step h hw hk hl⟩
section
structure StOk (R:Re) (s:Bs) (b e:Bool) (i:Nat) (M:MS):Prop where
 acc:∀ j,i≤j→(Way s b e R 0 j ↔ Acc (tabE R 0 0 0 0) s b e (fun n t=>(n,t)∈M.waits) (InT M.turns) (M.over=true) i j)
 turns:TurnsOk M.turns
 waits:∀ n t,(n,t)∈M.waits→t<M.turns.length∧∃ x,(tabE R 0 0 0 0)[n]?=some x∧(x.r.kind=1∨x.r.kind=3)
structure Kept (tc:Turns) (ws ws':List (Nat × Nat)) (K:Turns):Prop where
 turns:TurnsOk K
 to:∀ n t',(n,t')∈ws'→t'<K.length∧∃ t,(n,t)∈ws∧∀ l,InT K t' l ↔ InT tc t l
 of:∀ n t,(n,t)∈ws→∃ t',(n,t')∈ws'∧∀ l,InT K t' l ↔ InT tc t l
section
variable {R:Re} {s:Bs} {b e:Bool} {i:Nat}
theorem acc_kept {T:List Nd} {tc K:Turns} {ws ws':List (Nat × Nat)} {Ov:Prop} (hk:Kept tc ws ws' K) {j:Nat}:
  Acc T s b e (fun n t=>(n,t)∈ws) (InT tc) Ov i j ↔ Acc T s b e (fun n t=>(n,t)∈ws') (InT K) Ov i j:=by
 constructor
 ·rintro(h | ⟨n,t,l,x,h1,h2,h3,h4⟩)
  ·exact .inl h
  ·obtain⟨t',g1,g2⟩:=hk.of n t h1
   exact .inr ⟨n,t',l,x,g1,(g2 l).2 h2,h3,h4⟩
 ·rintro(h | ⟨n,t',l,x,h1,h2,h3,h4⟩)
  ·exact .inl h
  ·obtain⟨_,t,g1,g2⟩:=hk.to n t' h1
   exact .inr ⟨n,t,l,x,g1,(g2 l).1 h2,h3,h4⟩
theorem look_acc (hR:Fine R) {B E:Bool} {tc:Turns} (ht:TurnsOk tc) {S:LS} {Base:Nat→Prop} (hg:OkS (pmOf R B E tc) S) (hs:SndS (pmOf R B E tc) s b e i Base (InT tc) S) {j:Nat}
  (ha:Acc (tabE R 0 0 0 0) s b e (WW S) (InT (allT tc S)) (S.over=true) i j):Base j:=by
 rcases ha with ⟨h1,rfl⟩ | ⟨n,t,l,x,h1,h2,h3,h4⟩
 ·exact hs.over h1
 ·obtain⟨h5,_⟩:=hs.waits n t h1
  have hd:=dn_of hR ht hg hs h2
  rcases h4 with ⟨hk,⟨c,hc1,hc2⟩,hf⟩ | ⟨hk,he,hi,hf⟩
  ·exact h5.2 x h3 l hd (i+1) j ((way_set hk).2 ⟨c,hc1,hc2,rfl⟩) hf
  ·exact h5.2 x h3 l hd i j ((way_3 hk).2 ⟨rfl,hi,he⟩) hf
theorem sub_hyp (hR:Fine R):∀ n x,(tabE R 0 0 0 0)[n]?=some x→∃ p nx c,Sub (tabE R 0 0 0 0) n x.r p nx c∧Fine x.r:=(tab_ok hR).1.sub
theorem kid_hyp (hR:Fine R):∀ n x p,n≠0→(tabE R 0 0 0 0)[n]?=some x→(tabE R 0 0 0 0)[x.par]?=some p→p.cn≠0→p.kids=[n]∧p.r.kids=[x.r]:=by
 intro n x p hn hx hp hc;obtain⟨p',h1,_,_,h2⟩:=(tab_ok hR).1.par n x hn hx;rw[hp] at h1;injection h1 with h1;subst h1
 exact(h2 hc).2
theorem set_none {r:Re} (h:Fine r) (hk:r.kind≠1) (c:Nat):mem r.set c=false:=by
 cases r with
 | mk k S ks lo hi n=>
   rw[Fine] at h;have h1:=h.1;unfold told at h1;simp only[Bool.and_eq_true,Bool.or_eq_true,decide_eq_true_eq] at h1;simp only[Re.kind,Re.set] at hk ⊢
   rcases h1.1 with h2 | h2
   ·exact absurd h2 hk
   ·rw[h2];exact mem_none4 c
theorem st_new (hR:Fine R) {S:LS} (hr:Run (pmOf R b false [[]]) (.ent 0 0) (S0 (pmOf R b false [[]])) S) {ws':List (Nat × Nat)} {K:Turns} (hk:Kept (allT [[]] S) S.waits ws' K):StOk R s b e 0 ⟨ws',K,S.over⟩:=by
 have ht:TurnsOk [[]]:=by
  refine⟨rfl,?_,?_⟩
  ·intro t ws h w hw
   cases t with
   | zero=>injection h with h;subst h;cases hw
   | succ t=>simp at h
  ·intro t ws h h0
   cases t with
   | zero=>exact absurd rfl h0
   | succ t=>simp at h
 have hC:=tabC_of hR (B:=b) (E:=false) ht;have h0:Sub (tabE R 0 0 0 0) 0 R 0 0 0:=⟨[],by simp⟩;have hx0:=sub_at h0;have hv:VN (pmOf R b false [[]]) 0 0:=⟨(List.getElem?_eq_some_iff.1 hx0).1,.inl (by show 0<[[]].length;decide)⟩;obtain⟨hl,hE0⟩:=looked_new hC hr hv
 have hsnd:SndS (pmOf R b false [[]]) s b e 0 (fun j=>Way s b e R 0 j) (InT [[]]) S:=by
  refine snd_run hC.ok (fun h=>⟨h,rfl⟩) (fun h=>by cases h) (was_of ht) hr ?_ ⟨(fun n t h=>by cases h),(fun h=>by cases h),?_⟩
  ·refine⟨⟨[],by unfold Dn;rw[if_pos (by show 0<[[]].length;decide)];exact .zero⟩,?_⟩
   intro x hx l _ k j hw hf
   change (tabE R 0 0 0 0)[0]?=some x at hx
   rw[hx0] at hx;injection hx with hx;subst hx
   cases hf with
   | root=>exact hw
   | next a1=>exact absurd rfl a1
   | up a1=>exact absurd rfl a1
   | again a1=>exact absurd rfl a1
   | done a1=>exact absurd rfl a1
   | more a1=>exact absurd rfl a1
  ·intro n x _ _ arr h1 t ts h2
   unfold S0 at h1;simp only[List.getElem?_replicate] at h1
   split at h1
   ·injection h1 with h1;subst h1;simp at h2
   ·cases h1
 have S2:=stands_of (R:=R) (B:=b) (E:=false) ht (S:=S);refine⟨fun j _=>?_,hk.turns,fun n t h=>?_⟩
 ·rw[←acc_kept hk]
  constructor
  ·intro hw
   have hD:InT (allT [[]] S) 0 []:= .zero;by_cases hj:0<j
   ·exact gone_way (B:=b) (E':=false) (by simp) (fun h=>by cases h) hl.gone S2 R h0 hR hw hj hE0 hD .root
   ·obtain rfl:j=0:=by omega
    by_cases he:emptyE b false R=true
    ·exact .inl ⟨hl.gone.f_root 0 (gone_empty hl.gone R h0 hR he hE0),rfl⟩
    ·exact gone_end (B:=b) (E':=false) (by simp) hl.gone S2 R h0 hR (by simpa using he) hw hE0 hD .root
  ·intro ha
   exact look_acc hR ht hl.ok hsnd ha
 ·obtain⟨h1,t',h2,_⟩:=hk.to n t h
  obtain⟨x,g1,g2⟩:=(hsnd.waits n t' h2).2;exact⟨h1,x,g1,by rcases g2 with g2 | g2;exact .inl g2;exact .inr g2.1⟩
theorem st_look (hR:Fine R) {i':Nat} {B E:Bool} (hB:B=(b && decide (i'=0))) (hE:E=true→e=true∧i'=s.length) {M:MS} (hM:StOk R s b e i M) {P:Nd→Bool} {S:LS}
  (hP:∀ n t x,(n,t)∈M.waits→(tabE R 0 0 0 0)[n]?=some x→P x=true→∀ l,InT M.turns t l→∀ j,Fin (tabE R 0 0 0 0) s b e n l i' j→Way s b e R 0 j)
  (hr:RunW (pmOf R B E M.turns) P M.waits (S0 (pmOf R B E M.turns)) S):
  Looked (pmOf R B E M.turns) S∧SndS (pmOf R B E M.turns) s b e i' (fun j=>Way s b e R 0 j) (InT M.turns) S∧
  (∀ n t x,(n,t)∈M.waits→(tabE R 0 0 0 0)[n]?=some x→P x=true→∀ l,InT M.turns t l→∀ j,Fin (tabE R 0 0 0 0) s b e n l i' j→Acc (tabE R 0 0 0 0) s b e (WW S) (InT (allT M.turns S)) (S.over=true) i' j):=by
 have ht:=hM.turns;have hC:=tabC_of hR (B:=B) (E:=E) ht
 have hv:∀ w,w∈M.waits→VN (pmOf R B E M.turns) w.1 w.2:=fun w hw=>by
  obtain⟨h1,x,h2,_⟩:=hM.waits w.1 w.2 hw;exact⟨(List.getElem?_eq_some_iff.1 h2).1,.inl h1⟩
 obtain⟨hl,hF⟩:=looked_of hC hr hv;have S2:=stands_of (R:=R) (B:=B) (E:=E) ht (S:=S);refine⟨hl,?_,?_⟩
 ·have gen:∀ {l:List (Nat × Nat)} {Sa Sb:LS},RunW (pmOf R B E M.turns) P l Sa Sb→(∀ w,w∈l→w∈M.waits)→SndS (pmOf R B E M.turns) s b e i' (fun j=>Way s b e R 0 j) (InT M.turns) Sa→SndS (pmOf R B E M.turns) s b e i' (fun j=>Way s b e R 0 j) (InT M.turns) Sb:=by
   intro l Sa Sb hr
   induction hr with
   | nil=>intro _ h;exact h
   | skip _ _ _ ih=>intro hw h;exact ih (fun w hw'=>hw w (List.mem_cons_of_mem _ hw')) h
   | take h1 h2 h3 _ ih=>
     rename_i w l x Sa S1 Sb _
     intro hw h;refine ih (fun w hw'=>hw w (List.mem_cons_of_mem _ hw')) (snd_run hC.ok (fun h=>by rw[show (pmOf R B E M.turns).B=B from rfl,hB] at h;simpa using h) hE (was_of ht) h3 ?_ h);have hwm:=hw w (List.mem_cons_self ..);obtain⟨g1,_⟩:=hM.waits w.1 w.2 hwm;obtain⟨l0,hl0⟩:=inT_any ht w.2 w.2 (Nat.le_refl _) g1;refine⟨⟨l0,by unfold Dn;rw[if_pos (show w.2<(pmOf R B E M.turns).old from g1)];exact hl0⟩,?_⟩;intro l' hl' j hf;unfold Dn at hl';rw[if_pos (show w.2<(pmOf R B E M.turns).old from g1)] at hl';exact hP w.1 w.2 x hwm h1 h2 l' hl' j hf
  refine gen hr (fun _ h=>h) ⟨(fun n t h=>by cases h),(fun h=>by cases h),?_⟩;intro n x _ _ arr h1 t ts h2;unfold S0 at h1;simp only[List.getElem?_replicate] at h1
  split at h1
  ·injection h1 with h1;subst h1;simp at h2
  ·cases h1
 ·intro n t x hw hx hp l hl' j hf
  obtain⟨g1,_⟩:=hM.waits n t hw;exact gone_fin (B:=B) (E':=E) hB hE hl.gone S2 (sub_hyp hR) (kid_hyp hR) hf rfl (.inl ⟨t,g1,hF (n,t) hw x hx hp,(inT_old ht g1).2 hl'⟩)
theorem st_next (hR:Fine R) {M:MS} (hM:StOk R s b e i M) {c:UInt8} (hc:s[i]?=some c) {S:LS} (hr:RunW (pmOf R false false M.turns) (fun x=>mem x.r.set c.toNat) M.waits (S0 (pmOf R false false M.turns)) S)
  {ws':List (Nat × Nat)} {K:Turns} (hk:Kept (allT M.turns S) S.waits ws' K):StOk R s b e (i+1) ⟨ws',K,S.over⟩:=by
 have hlt:i<s.length:=(List.getElem?_eq_some_iff.1 hc).1
 have hkind:∀ n t x,(n,t)∈M.waits→(tabE R 0 0 0 0)[n]?=some x→mem x.r.set c.toNat=true→x.r.kind=1:=by
  intro n t x hw hx hp;obtain⟨_,_,_,_,hf⟩:=(tab_ok hR).1.sub n x hx;by_cases h:x.r.kind=1
  ·exact h
  ·rw[set_none hf h] at hp;cases hp
 obtain⟨hl,hsnd,hacc⟩:=st_look hR (i':=i+1) (B:=false) (E:=false) (by simp) (fun h=>by cases h) hM (P:=fun x=>mem x.r.set c.toNat) (by
  intro n t x hw hx hp l hl j hf;have:=fin_le hf;exact(hM.acc j (by omega)).2 (.inr ⟨n,t,l,x,hw,hl,hx,.inl ⟨hkind n t x hw hx hp,⟨c,hc,hp⟩,hf⟩⟩)) hr
 refine⟨fun j hj=>?_,hk.turns,fun n t h=>?_⟩
 ·rw[←acc_kept hk]
  constructor
  ·intro hw
   rcases(hM.acc j (by omega)).1 hw with ⟨_,h⟩ | ⟨n,t,l,x,h1,h2,h3,h4⟩
   ·omega
   ·rcases h4 with ⟨h5,⟨c',h6,h7⟩,h8⟩ | ⟨_,_,h6,_⟩
    ·rw[hc] at h6;injection h6 with h6;subst h6
     exact hacc n t x h1 h3 h7 l h2 j h8
    ·omega
  ·intro ha
   exact look_acc hR hM.turns hl.ok hsnd ha
 ·obtain⟨h1,t',h2,_⟩:=hk.to n t h
  obtain⟨x,g1,g2⟩:=(hsnd.waits n t' h2).2;exact⟨h1,x,g1,by rcases g2 with g2 | g2;exact .inl g2;exact .inr g2.1⟩
theorem st_end (hR:Fine R) {M:MS} (hM:StOk R s b e i M) (he:e=true) (hi:i=s.length) (ho:M.over=false) {B:Bool} (hB:B=(b && decide (i=0))) {S:LS}
  (hr:RunW (pmOf R B true M.turns) (fun x=>decide (x.r.kind=3)) M.waits (S0 (pmOf R B true M.turns)) S):Way s b e R 0 i ↔ S.over=true:=by
 obtain⟨hl,hsnd,hacc⟩:=st_look hR (i':=i) (B:=B) (E:=true) hB (fun _=>⟨he,hi⟩) hM (P:=fun x=>decide (x.r.kind=3)) (by
  intro n t x hw hx hp l hl j hf;exact(hM.acc j (fin_le hf)).2 (.inr ⟨n,t,l,x,hw,hl,hx,.inr ⟨of_decide_eq_true hp,he,hi,hf⟩⟩)) hr
 constructor
 ·intro hw
  rcases(hM.acc i (Nat.le_refl _)).1 hw with ⟨h,_⟩ | ⟨n,t,l,x,h1,h2,h3,h4⟩
  ·rw[ho] at h;cases h
  ·rcases h4 with ⟨_,_,h8⟩ | ⟨h5,_,_,h8⟩
   ·have:=fin_le h8;omega
   ·rcases hacc n t x h1 h3 (decide_eq_true h5) l h2 i h8 with ⟨h,_⟩ | ⟨n',t',l',x',g1,g2,g3,g4⟩
    ·exact h
    ·rcases g4 with ⟨_,_,g⟩ | ⟨g5,_⟩
     ·have:=fin_le g;omega
     ·obtain⟨x2,q1,q2⟩:=(hsnd.waits n' t' g1).2
      change (tabE R 0 0 0 0)[n']?=some x2 at q1
      rw[g3] at q1;injection q1 with q1;subst q1
      rcases q2 with q2 | ⟨_,q2⟩
      ·omega
      ·cases q2
 ·intro h
  exact hsnd.over h
theorem st_over {M:MS} (hM:StOk R s b e i M) (h:¬ (e=true∧i=s.length)):Way s b e R 0 i ↔ M.over=true:=by
 rw[hM.acc i (Nat.le_refl _)]
 constructor
 ·rintro(⟨h1,_⟩ | ⟨n,t,l,x,_,_,_,h4⟩)
  ·exact h1
  ·rcases h4 with ⟨_,_,g⟩ | ⟨_,g1,g2,_⟩
   ·have:=fin_le g;omega
   ·exact absurd ⟨g1,g2⟩ h
 ·intro h1;exact .inl ⟨h1,rfl⟩
theorem st_yes {M:MS} (hM:StOk R s b e i M) (h:M.over=true):Way s b e R 0 i:=(hM.acc i (Nat.le_refl _)).2 (.inl ⟨h,rfl⟩)
theorem st_dead {M:MS} (hM:StOk R s b e i M) (ho:M.over=false) (hw:M.waits=[]) {j:Nat} (hj:i≤j):¬ Way s b e R 0 j:=by
 rw[hM.acc j hj];rintro(⟨h,_⟩ | ⟨n,t,l,x,h,_⟩)
 ·rw[ho] at h;cases h
 ·rw[hw] at h;cases h
end
end
def Sml (S:LS):Prop:=(∀ (i x:Nat),S.did[i]?=some x→x<4)∧S.waits.length≤S.did.sum
def left (S:LS):Nat:=4 * S.did.length - S.did.sum
theorem sum_set {l:List Nat} {i a b:Nat} (h:l[i]?=some a):(l.set i b).sum+a=l.sum+b:=by
 induction l generalizing i with
 | nil=>simp at h
 | cons x l ih=>
   cases i with
   | zero=>injection h with h;subst h;simp only[List.set_cons_zero,List.sum_cons];omega
   | succ i=>
     have:=ih (i:=i) (by simpa using h);simp only[List.set_cons_succ,List.sum_cons];omega
theorem sum_le {l:List Nat} (h:∀ (i x:Nat),l[i]?=some x→x<4):l.sum≤4 * l.length:=by
 induction l with
 | nil=>simp
 | cons x l ih=>
   have:=ih (fun i y hy=>h (i+1) y (by simpa using hy));have:=h 0 x rfl;simp only[List.sum_cons,List.length_cons];omega
theorem or_small {a w:Nat} (ha:a<4) (hw:w=1∨w=2):(a ||| w)<4∧a≤(a ||| w)∧(a &&& w=0→a<(a ||| w)):=by
 have:a=0∨a=1∨a=2∨a=3:=by omega
 rcases this with rfl | rfl | rfl | rfl <;> rcases hw with rfl | rfl <;> decide
structure DidLe (S S':LS):Prop where
 sml:Sml S'
 sum:S.did.sum≤S'.did.sum
 len:S'.did.length=S.did.length
theorem DidLe.trans {S S1 S2:LS} (h:DidLe S S1) (h':DidLe S1 S2):DidLe S S2:=⟨h'.sml,Nat.le_trans h.sum h'.sum,h'.len.trans h.len⟩
theorem DidLe.left {S S':LS} (h:DidLe S S'):left S'≤left S:=by unfold Go.Proofs.YtiafefjaldcpbaaDoor.left;rw[h.len];have:=h.sum;omega
theorem did_mark (Q:Pm) {S:LS} (hs:Sml S) (n t:Nat) {w:Nat} (hw:w=1∨w=2):DidLe S (mark Q S n t w):=by
 unfold mark at_
 cases h:S.did[t * Q.T.length+n]? with
 | none=>
   have:S.did.length≤t * Q.T.length+n:=by rw[List.getElem?_eq_none_iff] at h;exact h
   simp only[List.set_eq_of_length_le this];exact⟨hs,Nat.le_refl _,rfl⟩
 | some a=>
   obtain⟨g1,g2,g3⟩:=or_small (hs.1 _ _ h) hw;have:=sum_set (b:=a ||| w) h;refine⟨⟨?_,?_⟩,?_,by simp⟩
   ·intro i x hx
    simp only[Option.getD_some,List.getElem?_set] at hx
    split at hx
    ·split at hx
     ·injection hx with hx;omega
     ·cases hx
    ·exact hs.1 i x hx
   ·have:=hs.2
    simp only[Option.getD_some];omega
   ·simp only[Option.getD_some];omega
theorem did_less {Q:Pm} {S:LS} (ho:OkS Q S) (hs:Sml S) {n t w:Nat} (hn:n<Q.T.length) (ht:t<Q.all) (hw:w=1∨w=2) (hh:¬ has Q S n t w):left (mark Q S n t w)<left S:=by
 have hi:t * Q.T.length+n<S.did.length:=by rw[ho.dlen];exact idx_lt hn ht
 have h:=List.getElem?_eq_getElem hi;unfold has at_ at hh
 rw[h] at hh;simp only[Option.getD_some,ne_eq,Decidable.not_not] at hh;obtain⟨g1,g2,g3⟩:=or_small (hs.1 _ _ h) hw;have:=sum_set (b:=S.did[t * Q.T.length+n] ||| w) h;have hm:=sum_le (did_mark Q hs n t hw).sml.1;unfold left mark at_
 rw[h];simp only[Option.getD_some,List.length_set];have hl:(mark Q S n t w).did=S.did.set (t * Q.T.length+n) (S.did[t * Q.T.length+n] ||| w):=by unfold mark at_;rw[h];rfl
 rw[hl,List.length_set] at hm;have:=g3 hh;omega
theorem did_wait {Q:Pm} {S:LS} (hs:Sml S) {n t:Nat} (hh:¬ has Q S n t 1) (hi:t * Q.T.length+n<S.did.length):DidLe S (wait (mark Q S n t 1) n t):=by
 have h:=List.getElem?_eq_getElem hi;unfold has at_ at hh
 rw[h] at hh;simp only[Option.getD_some,ne_eq,Decidable.not_not] at hh;obtain⟨g1,g2,g3⟩:=or_small (hs.1 _ _ h) (w:=1) (.inl rfl);have hsum:=sum_set (b:=S.did[t * Q.T.length+n] ||| 1) h;have d:=did_mark Q hs n t (w:=1) (.inl rfl);have hl:(mark Q S n t 1).did=S.did.set (t * Q.T.length+n) (S.did[t * Q.T.length+n] ||| 1):=by unfold mark at_;rw[h];rfl
 have hw:(wait (mark Q S n t 1) n t).waits.length=S.waits.length+1:=by unfold wait mark;simp
 refine⟨⟨d.sml.1,?_⟩,d.sum,d.len⟩;rw[hw];show _≤(mark Q S n t 1).did.sum;rw[hl];have:=g3 hh;have:=hs.2;omega
theorem did_run {Q:Pm} {tk:Tk} {S S':LS} (hr:Run Q tk S S'):Sml S→DidLe S S':=by
 have rf:∀ {S:LS},Sml S→DidLe S S:=fun h=>⟨h,Nat.le_refl _,rfl⟩
 have m1:∀ {S:LS} (n t:Nat),Sml S→DidLe S (mark Q S n t 1):=fun n t h=>did_mark Q h n t (.inl rfl)
 have m2:∀ {S:LS} (n t:Nat),Sml S→DidLe S (mark Q S n t 2):=fun n t h=>did_mark Q h n t (.inr rfl)
 induction hr with
 | ent_old=>exact rf
 | ent_set h1 h2 h3 h4=>intro h;exact did_wait h h1 h4
 | ent_end h1 h2 h3 h4 h5=>intro h;exact did_wait h h1 h5
 | ent_fin _ _ _ _ _ ih=>intro h;exact(m1 _ _ h).trans (ih (m1 _ _ h).sml)
 | ent_rep _ _ _ _ ih=>intro h;exact(m1 _ _ h).trans (ih (m1 _ _ h).sml)
 | ent_cat _ _ _ _ _ ih=>intro h;exact(m1 _ _ h).trans (ih (m1 _ _ h).sml)
 | ent_alt _ _ _ _ ih=>intro h;exact(m1 _ _ h).trans (ih (m1 _ _ h).sml)
 | ent_emp _ _ _ _ _ ih=>intro h;exact(m1 _ _ h).trans (ih (m1 _ _ h).sml)
 | ent_not=>intro h;exact m1 _ _ h
 | ents_nil=>exact rf
 | ents_cons _ _ ih1 ih2=>intro h;exact(ih1 h).trans (ih2 (ih1 h).sml)
 | rep_cnt _ _ _ ih=>exact ih
 | rep_pln h1 h2 h3 h4 h5 h6 h7 ih1 ih2=>
   rename_i n t k S S1 S' x
   intro h
   have d1:DidLe S S1:=by
    by_cases hh:x.r.hi=0
    ·rw[h5 hh];exact rf h
    ·exact ih1 hh h
   have d2:DidLe S1 S':=by
    by_cases hh:x.r.lo=0
    ·exact ih2 hh d1.sml
    ·rw[h7 hh];exact rf d1.sml
   exact d1.trans d2
 | fin_old=>exact rf
 | fin_root=>intro h;exact⟨(m2 0 _ h).sml,(m2 0 _ h).sum,(m2 0 _ h).len⟩
 | fin_next _ _ _ _ _ ih=>intro h;exact(m2 _ _ h).trans (ih (m2 _ _ h).sml)
 | fin_cnt _ _ _ _ _ _ _ ih=>intro h;exact(m2 _ _ h).trans (ih (m2 _ _ h).sml)
 | fin_up _ _ _ _ _ _ _ h7 h8 ih1 ih2=>
   rename_i n t S S1 S' x p _ _ _ _ _ _ _
   intro h;have d1:=(m2 n t h).trans (ih1 (m2 _ _ h).sml);by_cases hh:p.r.kind=6∧p.r.hi<0
   ·exact d1.trans (ih2 hh d1.sml)
   ·rw[h8 hh];exact d1
 | ftn_new=>exact rf
 | ftn_old _ _ _ ih=>exact ih
 | begs_nil=>exact rf
 | begs_cons _ _ ih1 ih2=>intro h;exact(ih1 h).trans (ih2 (ih1 h).sml)
 | beg h1 h2 h3 h4 h5 h6 ih1 ih2=>
   rename_i n t ts S S1 S' x
   intro h
   have d1:DidLe S S1:=by
    by_cases hh:closN x.r (keOf Q.B Q.E x) ts >>> x.r.lo.toNat≠0
    ·exact ih1 hh h
    ·rw[h4 (by simpa using hh)];exact rf h
   have d2:DidLe S1 S':=by
    by_cases hh:leftN x.r (closN x.r (keOf Q.B Q.E x) ts)≠0
    ·exact ih2 hh d1.sml
    ·rw[h6 (by simpa using hh)];exact rf d1.sml
   exact d1.trans d2
 | btn_old=>intro h;exact⟨h,Nat.le_refl _,rfl⟩
 | btn_new _ _ _ _ _ ih=>intro h;have:=ih h;exact⟨this.sml,this.sum,this.len⟩
def Liv (Q:Pm) (S:LS) (t:Nat):Prop:=t<Q.old∨∃ arr:List Nat,S.begun[t - Q.old]?=some arr∧arr≠[]
structure Nz (Q:Pm) (S:LS):Prop where
 len:S.begun.length=Q.C
 arr:∀ (c:Nat) (arr:List Nat),S.begun[c]?=some arr→arr≠[]→(∀ (t ts:Nat),arr[t]?=some ts→ts≠0→Liv Q S t)∧∃ t ts:Nat,arr[t]?=some ts∧ts≠0
 waits:∀ n t,(n,t)∈S.waits→Liv Q S t
def LivT (Q:Pm) (S:LS):Tk→Prop
 | .ent _ t=>Liv Q S t
 | .fin _ t=>Liv Q S t
 | .rep _ t=>Liv Q S t
 | .ftn _ _=>True
 | .beg _ t _=>Liv Q S t
 | .btn _ t ts=>Liv Q S t∧ts≠0
 | .ents _ t=>Liv Q S t
 | .begs _ l=>∀ w,w∈l→w.1<Q.old
theorem Nz.mark {Q:Pm} {S:LS} (h:Nz Q S) (n t w:Nat):Nz Q (mark Q S n t w):=⟨h.len,h.arr,h.waits⟩
theorem Nz.ends {Q:Pm} {S:LS} (h:Nz Q S):Nz Q (ends S):=⟨h.len,h.arr,h.waits⟩
theorem Nz.wait {Q:Pm} {S:LS} (h:Nz Q S) {n t:Nat} (hl:Liv Q S t):Nz Q (wait S n t):=⟨h.len,h.arr,fun n' t' hm=>by
 rcases List.mem_append.1 hm with hm | hm
 ·exact h.waits n' t' hm
 ·simp only[List.mem_singleton,Prod.mk.injEq] at hm
  obtain⟨_,rfl⟩:=hm;exact hl⟩
theorem Liv.lt {Q:Pm} {S:LS} (h:Nz Q S) {t:Nat} (hl:Liv Q S t):t<Q.all:=by
 unfold Pm.all
 rcases hl with hl | ⟨arr,h1,_⟩
 ·omega
 ·have:=(List.getElem?_eq_some_iff.1 h1).1
  rw[h.len] at this;omega
theorem addB_liv {Q:Pm} {S:LS} {c t ts:Nat} {arr:List Nat} (hn:arr≠[]) {u:Nat} (h:Liv Q S u):Liv Q (addB S c t ts arr) u:=by
 rcases h with h | ⟨a,h1,h2⟩
 ·exact .inl h
 ·right
  unfold addB;simp only[List.getElem?_set]
  split
  ·rename_i hc
   rw[if_pos (by rw[hc];exact(List.getElem?_eq_some_iff.1 h1).1)];exact⟨_,rfl,fun e=>hn (List.eq_nil_of_length_eq_zero (by have:=congrArg List.length e;simpa using this))⟩
  ·exact⟨a,h1,h2⟩
theorem or_ne {a b:Nat} (h:b≠0):a ||| b≠0:=by
 obtain⟨k,hk⟩:=Nat.exists_testBit_of_ne_zero h;intro e;have:=congrArg (fun x=>x.testBit k) e;simp[hk] at this
theorem Nz.add {Q:Pm} {S:LS} (h:Nz Q S) {c t ts:Nat} {arr:List Nat} (hn:arr≠[]) (ht:Liv Q S t) (hts:ts≠0) (hw:(∃ t ts:Nat,arr[t]?=some ts∧ts≠0)∨t<arr.length) (ho:∀ (t ts:Nat),arr[t]?=some ts→ts≠0→Liv Q S t):Nz Q (addB S c t ts arr):=by
 refine⟨by unfold addB;simp only[List.length_set];exact h.len,fun c' a h1 h2=>?_,fun n u hm=>addB_liv hn (h.waits n u hm)⟩;unfold addB at h1;simp only[List.getElem?_set] at h1
 split at h1
 ·split at h1
  ·injection h1 with h1;subst h1
   constructor
   ·intro u us h3 h4
    rw[List.getElem?_set] at h3
    split at h3
    ·rename_i e;subst e;exact addB_liv hn ht
    ·exact addB_liv hn (ho u us h3 h4)
   ·by_cases hl:t<arr.length
    ·exact⟨t,(arr[t]?).getD 0 ||| ts,List.getElem?_set_self hl,or_ne hts⟩
    ·rcases hw with ⟨u,us,h3,h4⟩ | hw
     ·exact⟨u,us,by rw[List.getElem?_set_ne (by have:=(List.getElem?_eq_some_iff.1 h3).1;omega)];exact h3,h4⟩
     ·exact absurd hw hl
  ·cases h1
 ·obtain⟨g1,g2⟩:=h.arr c' a h1 h2
  exact⟨fun u us h3 h4=>addB_liv hn (g1 u us h3 h4),g2⟩
theorem run_nz {Q:Pm} (htc:∀ (t:Nat) (ws:List (Nat × Nat)),Q.tc[t]?=some ws→∀ w,w∈ws→w.1<Q.old) {tk:Tk} {S S':LS} (hr:Run Q tk S S'):Nz Q S→LivT Q S tk→Nz Q S'∧∀ t,Liv Q S t→Liv Q S' t:=by
 induction hr with
 | ent_old _=>exact fun h _=>⟨h,fun _ h=>h⟩
 | ent_set _ _ _ _=>exact fun h hl=>⟨(h.mark _ _ _).wait hl,fun _ h=>h⟩
 | ent_end _ _ _ _ _=>exact fun h hl=>⟨(h.mark _ _ _).wait hl,fun _ h=>h⟩
 | ent_fin _ _ _ _ _ ih=>exact fun h hl=>ih (h.mark _ _ _) hl
 | ent_rep _ _ _ _ ih=>exact fun h hl=>ih (h.mark _ _ _) hl
 | ent_cat _ _ _ _ _ ih=>exact fun h hl=>ih (h.mark _ _ _) hl
 | ent_alt _ _ _ _ ih=>exact fun h hl=>ih (h.mark _ _ _) hl
 | ent_emp _ _ _ _ _ ih=>exact fun h hl=>ih (h.mark _ _ _) hl
 | ent_not _ _ _ _=>exact fun h hl=>⟨h.mark _ _ _,fun _ h=>h⟩
 | ents_nil=>exact fun h _=>⟨h,fun _ h=>h⟩
 | ents_cons _ _ ih1 ih2=>
   intro h hl;obtain⟨a1,a2⟩:=ih1 h hl;obtain⟨b1,b2⟩:=ih2 a1 (a2 _ hl);exact⟨b1,fun t h=>b2 t (a2 t h)⟩
 | rep_cnt _ _ _ ih=>exact fun h hl=>ih h hl
 | @rep_pln n t k S S1 S' x _ _ _ r1 e1 r2 e2 ih1 ih2=>
   intro h hl
   have s1:Nz Q S1∧∀ t,Liv Q S t→Liv Q S1 t:=by
    by_cases hh:x.r.hi=0
    ·rw[e1 hh];exact⟨h,fun _ h=>h⟩
    ·exact ih1 hh h hl
   have s2:Nz Q S'∧∀ t,Liv Q S1 t→Liv Q S' t:=by
    by_cases hh:x.r.lo=0
    ·exact ih2 hh s1.1 (s1.2 _ hl)
    ·rw[e2 hh];exact⟨s1.1,fun _ h=>h⟩
   exact⟨s2.1,fun t h=>s2.2 t (s1.2 t h)⟩
 | fin_old _=>exact fun h _=>⟨h,fun _ h=>h⟩
 | fin_root _=>exact fun h _=>⟨(h.mark _ _ _).ends,fun _ h=>h⟩
 | fin_next _ _ _ _ _ ih=>exact fun h hl=>ih (h.mark _ _ _) hl
 | fin_cnt _ _ _ _ _ _ _ ih=>exact fun h hl=>ih (h.mark _ _ _) trivial
 | @fin_up n t S S1 S' x p _ _ _ _ _ _ _ r2 e2 ih1 ih2=>
   intro h hl;obtain⟨a1,a2⟩:=ih1 (h.mark _ _ _) hl
   have s2:Nz Q S'∧∀ t,Liv Q S1 t→Liv Q S' t:=by
    by_cases hh:p.r.kind=6∧p.r.hi<0
    ·exact ih2 hh a1 (a2 _ hl)
    ·rw[e2 hh];exact⟨a1,fun _ h=>h⟩
   exact⟨s2.1,fun t h=>s2.2 t (a2 t h)⟩
 | ftn_new _=>exact fun h _=>⟨h,fun _ h=>h⟩
 | ftn_old _ h2 _ ih=>exact fun h _=>ih h (fun w hw=>htc _ _ h2 w hw)
 | begs_nil=>exact fun h _=>⟨h,fun _ h=>h⟩
 | begs_cons _ _ ih1 ih2=>
   intro h hl;obtain⟨a1,a2⟩:=ih1 h (.inl (hl _ (List.mem_cons_self ..)));obtain⟨b1,b2⟩:=ih2 a1 (fun w hw=>hl w (List.mem_cons_of_mem _ hw));exact⟨b1,fun t h=>b2 t (a2 t h)⟩
 | @beg n t ts S S1 S' x _ _ r1 e1 r2 e2 ih1 ih2=>
   intro h hl
   have s1:Nz Q S1∧∀ t,Liv Q S t→Liv Q S1 t:=by
    by_cases hh:closN x.r (keOf Q.B Q.E x) ts >>> x.r.lo.toNat=0
    ·rw[e1 hh];exact⟨h,fun _ h=>h⟩
    ·exact ih1 hh h hl
   have s2:Nz Q S'∧∀ t,Liv Q S1 t→Liv Q S' t:=by
    by_cases hh:leftN x.r (closN x.r (keOf Q.B Q.E x) ts)=0
    ·rw[e2 hh];exact⟨s1.1,fun _ h=>h⟩
    ·exact ih2 hh s1.1 ⟨s1.2 _ hl,hh⟩
   exact⟨s2.1,fun t h=>s2.2 t (s1.2 t h)⟩
 | btn_old _ _ ha hne=>
   intro h hl;obtain⟨g1,g2⟩:=h.arr _ _ ha hne;exact⟨h.add hne hl.1 hl.2 (.inl g2) g1,fun u hu=>addB_liv hne hu⟩
 | @btn_new n t ts k S S' x h1 h2 ha _ _ ih=>
   intro h hl;have hlt:=hl.1.lt h;have hne:List.replicate Q.all 0≠[]:=by intro e;have:=congrArg List.length e;simp at this;omega
   have hz:Nz Q (addB S (x.cn - 1) t ts (List.replicate Q.all 0)):=h.add hne hl.1 hl.2 (.inr (by simpa using hlt)) (fun u us h3 h4=>by
    rw[List.getElem?_replicate] at h3
    split at h3
    ·injection h3 with h3;exact absurd h3.symm h4
    ·cases h3)
   obtain⟨a1,a2⟩:=ih hz (.inr ⟨(List.replicate Q.all 0).set t (((List.replicate Q.all 0)[t]?).getD 0 ||| ts),by
    rw[show Q.old+x.cn - 1 - Q.old=x.cn - 1 by omega];unfold addB;exact List.getElem?_set_self (List.getElem?_eq_some_iff.1 ha).1,by intro e;have:=congrArg List.length e;simp at this;omega⟩)
   exact⟨a1,fun u hu=>a2 u (addB_liv hne hu)⟩
theorem s0_nz (Q:Pm):Nz Q (S0 Q):=by
 refine⟨by simp[S0],fun c arr h1 h2=>?_,fun n t h=>by cases h⟩;unfold S0 at h1;simp only[List.getElem?_replicate] at h1
 split at h1
 ·injection h1 with h1;exact absurd h1.symm h2
 ·cases h1
theorem runW_nz {Q:Pm} (htc:∀ (t:Nat) (ws:List (Nat × Nat)),Q.tc[t]?=some ws→∀ w,w∈ws→w.1<Q.old) {P:Nd→Bool} {l:List (Nat × Nat)} {S S':LS} (hr:RunW Q P l S S'):(∀ w,w∈l→w.2<Q.old)→Nz Q S→Nz Q S':=by
 induction hr with
 | nil=>exact fun _ h=>h
 | skip _ _ _ ih=>exact fun hv h=>ih (fun w hw=>hv w (List.mem_cons_of_mem _ hw)) h
 | take _ _ h3 _ ih=>exact fun hv h=>ih (fun w hw=>hv w (List.mem_cons_of_mem _ hw)) (run_nz htc h3 h (.inl (hv _ (List.mem_cons_self ..)))).1
structure Srcs (T:Turns) (Lv:Nat→Prop):Prop where
 zero:T[0]?=some []
 one:∀ n,Lv n→n≠0→∃ ws,T[n]?=some ws∧ws≠[]∧∀ w,w∈ws→w.1<n∧w.2<512∧w.2≠0∧Lv w.1
theorem srcs_of {Q:Pm} {tc:Turns} (ht:TurnsOk tc) (hl:Q.old=tc.length) {S:LS} (ho:OkS Q S) (hz:Nz Q S):Srcs (allT tc S) (Liv Q S):=by
 have h0:=(List.getElem?_eq_some_iff.1 ht.zero).1;refine⟨by rw[allT_old h0];exact ht.zero,fun n hn h0=>?_⟩;by_cases hlt:n<tc.length
 ·obtain⟨ws,hws⟩:∃ ws,tc[n]?=some ws:=⟨_,List.getElem?_eq_getElem hlt⟩
  refine⟨ws,by rw[allT_old hlt];exact hws,ht.some _ _ hws h0,fun w hw=>?_⟩;obtain⟨a1,a2,a3⟩:=ht.cons _ _ hws w hw;exact⟨a1,a2,a3,.inl (by omega)⟩
 ·rcases hn with hn | ⟨arr,h1,h2⟩
  ·omega
  ·obtain⟨g1,g2⟩:=hz.arr _ _ h1 h2
   obtain⟨_,k2⟩:=ho.arr _ _ h1 h2;refine⟨newT arr,?_,?_,fun w hw=>?_⟩
   ·have:=allT_new (tc:=tc) (S:=S) (c:=n - Q.old)
    rw[h1,show tc.length+(n - Q.old)=n by omega] at this;exact this
   ·obtain⟨t,ts,h3,h4⟩:=g2
    exact List.ne_nil_of_mem (newT_mem.2 (show arr[(t,ts).1]?=some (t,ts).2∧(t,ts).2≠0 from⟨h3,h4⟩))
   ·obtain⟨h3,h4⟩:=newT_mem.1 hw
    obtain⟨k3,k4⟩:=k2 _ _ h3;have:=k4 h4;exact⟨by omega,k3,h4,g1 _ _ h3 h4⟩
end Go.Proofs.YtiafefjaldcpbaaDoor
