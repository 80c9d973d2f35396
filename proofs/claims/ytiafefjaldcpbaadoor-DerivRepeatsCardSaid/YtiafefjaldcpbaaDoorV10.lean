import Derived.Test.YtiafefjaldcpbaaDoorV6
namespace Go.Proofs.YtiafefjaldcpbaaDoor
open Go Go.RowKit
section
section
variable {Q:Pm} {s:Bs} {b e:Bool} {i:Nat} {Base:Nat→Prop} {D0:Nat→List Nat→Prop}
theorem SndS.mark {S:LS} (h:SndS Q s b e i Base D0 S) (n t w:Nat):SndS Q s b e i Base D0 (mark Q S n t w):=⟨h.waits,h.over,h.begun⟩
theorem SndS.wait {S:LS} (h:SndS Q s b e i Base D0 S) {n t:Nat} {x:Nd} (hE:SndE Q s b e i Base D0 n t) (hx:Q.T[n]?=some x) (hk:x.r.kind=1∨(x.r.kind=3∧Q.E=false)):SndS Q s b e i Base D0 (wait S n t):=
 ⟨fun n' t' hm=>by
  rcases List.mem_append.1 hm with hm | hm
  ·exact h.waits n' t' hm
  ·simp only[List.mem_singleton,Prod.mk.injEq] at hm
   obtain⟨rfl,rfl⟩:=hm;exact⟨hE,x,hx,hk⟩,h.over,h.begun⟩
theorem bit_dbl {a k:Nat}:(2 * a).testBit k=true ↔ ∃ j,k=j+1∧a.testBit j=true:=by
 cases k with
 | zero=>
   constructor
   ·intro h;rw[Nat.testBit_zero] at h;simp at h
   ·rintro⟨j,h,_⟩;omega
 | succ k=>
   rw[Nat.testBit_succ,Nat.mul_div_cancel_left _ (by decide)]
   constructor
   ·intro h;exact⟨k,rfl,h⟩
   ·rintro⟨j,h,h2⟩;injection h with h;subst h;exact h2
theorem clos_snd (hT:TabOk Q.T) (hB:Q.B=true→b=true∧i=0) (hE:Q.E=true→e=true∧i=s.length) {n t ts k:Nat} {x:Nd} (hx:Q.T[n]?=some x) (hc:x.cn≠0)
  (h:∀ j,ts.testBit j=true→SndB Q s b e i Base D0 n t j) (hk:inClos x.r (keOf Q.B Q.E x) ts k):SndB Q s b e i Base D0 n t k:=by
 obtain⟨_,j,hj,h2⟩:=hk;obtain⟨g1,g2⟩:=h j hj;refine⟨g1,?_⟩;intro x' hx' m hm y hy l hl q hcnt;rw[hx] at hx';injection hx' with hx';subst hx'
 obtain⟨y',k1,k2,k3,k4,k5,k6⟩:=hT.kid1 hx (cn_6 hT hx hc);rw[k1] at hm;injection hm with hm;subst hm
 rw[k2] at hy;injection hy with hy;subst hy
 refine g2 x hx (n+1) k1 y' k2 l hl q ?_;have hpar:Q.T[y'.par]?=some x:=by rw[k5];exact hx
 have unc:Cnt Q.T s b e n x (n+1) y' l (clip x.r j) i q→Cnt Q.T s b e n x (n+1) y' l j i q:=by
  intro h;have:=cnt_unclip (n:=n+1) (x:=y') (p:=x) (by omega) k2 k4 hpar hc (l:=l) (i:=i) (j:=q) (k:=j) (by rw[k5];exact h);rw[k5] at this;exact this
 apply unc
 rcases h2 with h2 | ⟨hke,h2⟩
 ·rw[h2];exact hcnt
 ·have hy0:Way s b e y'.r i i:=by
   obtain⟨_,_,_,_,hf⟩:=hT.sub _ _ k2;refine empty_way s b e i hB hE y'.r hf ?_;unfold keOf at hke;rw[k3,anyE,anyE,Bool.or_false] at hke;exact hke
  have down:∀ d,clip x.r j+d=k→Cnt Q.T s b e n x (n+1) y' l k i q→Cnt Q.T s b e n x (n+1) y' l (k - d) i q:=by
   intro d
   induction d with
   | zero=>intro _ h;exact h
   | succ d ihd=>
     intro hd hcc
     have h3:Cnt Q.T s b e n x (n+1) y' l (k - d) i q:=by
      have gen:∀ d',clip x.r j+(d+1 - d')≤k→d'≤d→Cnt Q.T s b e n x (n+1) y' l (k - d') i q:=by
       intro d'
       induction d' with
       | zero=>intro _ _;exact hcc
       | succ d' ih2=>
         intro _ h5;have h6:=ih2 (by omega) (by omega);rw[show k - d'=(k - (d'+1))+1 by omega] at h6;have h7:=cnt_fin (n:=n+1) (x:=y') (p:=x) (by omega) k2 k4 hpar hc (by rw[k5];exact h6);refine .inr ⟨?_,i,hy0,h7⟩
         rcases h6 with ⟨_,h8,_⟩ | ⟨h8,_⟩ <;> omega
      exact gen d (by omega) (Nat.le_refl _)
     rw[show k - d=(k - (d+1))+1 by omega] at h3;have h7:=cnt_fin (n:=n+1) (x:=y') (p:=x) (by omega) k2 k4 hpar hc (by rw[k5];exact h3);refine .inr ⟨?_,i,hy0,h7⟩
     rcases h3 with ⟨_,h8,_⟩ | ⟨h8,_⟩ <;> omega
  have:=down (k - clip x.r j) (by omega) hcnt;rw[show k - (k - clip x.r j)=clip x.r j by omega] at this;exact this
structure Was (Q:Pm) (D0:Nat→List Nat→Prop):Prop where
 len:Q.tc.length=Q.old
 any:∀ t,t<Q.old→∃ l,D0 t l
 cons:∀ t ws,Q.tc[t]?=some ws→∀ w,w∈ws→w.1<Q.old∧w.2<512∧(∃ k,w.2.testBit k=true)∧∀ k,w.2.testBit k=true→∀ l,D0 w.1 l→D0 t (k::l)
theorem snd_run (hT:TabOk Q.T) (hB:Q.B=true→b=true∧i=0) (hE:Q.E=true→e=true∧i=s.length) (hW:Was Q D0) {tk:Tk} {S S':LS} (h:Run Q tk S S'):
  SndT Q s b e i Base D0 tk→SndS Q s b e i Base D0 S→SndS Q s b e i Base D0 S':=by
 induction h with
 | ent_old h=>intro _ h;exact h
 | ent_set h1 h2 h3 _=>intro ht hs;exact(hs.mark _ _ _).wait ht h2 (.inl h3)
 | ent_end h1 h2 h3 h4 _=>intro ht hs;exact(hs.mark _ _ _).wait ht h2 (.inr ⟨h3,h4⟩)
 | ent_fin h1 h2 h3 h4 _ ih=>
   intro ht hs;refine ih ⟨ht.1,fun l hl j hf=>ht.2 _ h2 l hl _ j ?_ hf⟩ (hs.mark _ _ _);rw[way_3 h3];exact⟨rfl,(hE h4).2,(hE h4).1⟩
 | ent_rep h1 h2 h3 _ ih=>intro ht hs;exact ih ⟨ht,_,h2,h3⟩ (hs.mark _ _ _)
 | ent_cat h1 h2 h3 h4 _ ih=>
   rename_i n t S S' x k l _
   intro ht hs;refine ih ⟨ht.1,?_⟩ (hs.mark _ _ _);intro y hy σ hσ q j hw hf;obtain⟨p,nx,c,e1,e2,e3⟩:=hT.nd h2;have hc0:x.cn=0:=by rw[e1];exact cn_cat (by omega)
   obtain⟨z,z',l',hk⟩:∃ z z' l',x.r.kids=z::z'::l':=by have:=e3.cases;simp only[h3] at this;simpa using this
   have hL:=sub_kids e2;rw[hk,h3] at hL;simp only[decide_true] at hL
   have hkk:k=n+1:=by
    have:x.kids=kidsAt (n+1) x.r.kids:=by rw[e1];rfl
    rw[this,hk,kidsAt] at h4;injection h4 with h4;exact h4.symm
   subst hkk;obtain⟨g1,_⟩:=subL_cons hL;rw[sub_at g1] at hy;injection hy with hy
   obtain⟨q',w1,w2⟩:=row_fin h2 hc0 (by omega) hL (by omega) hf;refine ht.2 _ h2 σ hσ q' j ?_ w2;rw[way_cat (.inl h3),hk,WayL];exact⟨q,by rw[←hy] at hw;exact hw,w1⟩
 | ent_alt h1 h2 h3 _ ih=>
   rename_i n t S S' x _
   intro ht hs;refine ih ?_ (hs.mark _ _ _);intro k hk;refine⟨ht.1,?_⟩;intro y hy σ hσ q j hw hf;obtain⟨p,nx,c,e1,e2,e3⟩:=hT.nd h2;have hc0:x.cn=0:=by rw[e1];exact cn_cat (by omega)
   have hL:=sub_kids e2;rw[show decide (x.r.kind=4)=false by rw[decide_eq_false_iff_not];omega] at hL;have hkk:x.kids=kidsAt (n+1) x.r.kids:=by rw[e1];rfl
   rw[hkk] at hk
   have key:∀ (l:List Re) (a c':Nat),SubL Q.T a l false n c'→0<a→k∈kidsAt a l→k≠0∧∃ r c'',r∈l∧Sub Q.T k r n 0 c''∧∀ q,Way s b e r i q→WayA s b e l i q:=by
    intro l
    induction l with
    | nil=>intro a c' _ _ h;cases h
    | cons r l ihl=>
      intro a c' hl ha h;obtain⟨g1,g2⟩:=subL_cons hl;rw[kidsAt] at h
      rcases List.mem_cons.1 h with h | h
      ·subst h
       exact⟨by omega,r,c',List.mem_cons_self ..,by simpa using g1,fun q hq=>by rw[WayA];exact .inl hq⟩
      ·obtain⟨k0,r',c'',k1,k2,k3⟩:=ihl _ _ g2 (by omega) h
       exact⟨k0,r',c'',List.mem_cons_of_mem _ k1,k2,fun q hq=>by rw[WayA];exact .inr (k3 q hq)⟩
   obtain⟨hk0,r,c'',k1,k2,k3⟩:=key _ _ _ hL (by omega) hk;rw[sub_at k2] at hy;injection hy with hy;subst hy
   refine ht.2 _ h2 σ hσ q j ?_ ?_
   ·rcases h3 with h3 | h3
    ·rw[way_alt h3];exact k3 _ hw
    ·rw[way_cat (.inr h3)]
     obtain⟨z,hz⟩:∃ z,x.r.kids=[z]:=by have:=e3.cases;simp only[h3] at this;simpa using this
     rw[hz] at k1 ⊢;rw[List.mem_singleton] at k1;subst k1;rw[wayL_one];exact hw
   ·obtain⟨v,q',v1,v2,v3⟩:=star_fin hk0 (sub_at k2) rfl (show Q.T[n]?=some x from h2) hc0 hf
    cases v with
    | zero=>rw[TimesW] at v2;subst v2;exact v3
    | succ v=>have:=(v1 (by omega)).1;omega
 | ent_emp h1 h2 h3 h4 _ ih=>
   intro ht hs;obtain⟨_,_,_,_,hf⟩:=hT.sub _ _ h2;exact ih ⟨ht.1,fun l hl j hf'=>ht.2 _ h2 l hl _ j (empty_way s b e i hB hE _ hf h4) hf'⟩ (hs.mark _ _ _)
 | ent_not=>intro _ hs;exact hs.mark _ _ _
 | ents_nil=>intro _ h;exact h
 | ents_cons _ _ ih1 ih2=>
   intro ht hs;exact ih2 (fun k hk=>ht k (List.mem_cons_of_mem _ hk)) (ih1 (ht _ (List.mem_cons_self ..)) hs)
 | rep_cnt h1 h2 _ ih=>
   rename_i n t S S' x _
   intro ht hs;obtain⟨y,k1,k2,k3,k4,k5,k6⟩:=hT.kid1 h1 (cn_6 hT h1 h2);refine ih ⟨by decide,⟨0,by decide⟩,?_⟩ hs;intro k hk
   have:k=0:=by
    cases k with
    | zero=>rfl
    | succ k=>rw[Nat.testBit_succ] at hk;simp at hk
   subst this;refine⟨ht.1.1,?_⟩;intro x' hx' m hm y' hy' l hl j hcnt;rw[h1] at hx';injection hx' with hx';subst hx'
   rw[k1] at hm;injection hm with hm;subst hm
   rw[k2] at hy';injection hy' with hy';subst hy'
   have h6:=cn_6 hT h1 h2
   rcases hcnt with ⟨c1,c2,c3⟩ | ⟨c1,q,c2,c3⟩
   ·exact ht.1.2 _ h1 l hl i j ((way_rep h6 k3).2 ⟨0,c1,c2,rfl⟩) c3
   ·obtain⟨v,q',v1,v2,v3,v4⟩:=cnt_times (by omega) k2 k4 (by rw[k5];exact h1) h2 c3
    rw[k5] at v4;exact ht.1.2 _ h1 l hl q' j ((way_rep h6 k3).2 ⟨v+1,by omega,by omega,by rw[TimesW];exact⟨q,c2,v3⟩⟩) v4
 | rep_pln h1 h2 h3 h4 h5 h6 h7 ih1 ih2=>
   rename_i n t k S S1 S' x
   intro ht hs;obtain⟨⟨hany,hsnd⟩,x',hx',h0⟩:=ht;rw[h1] at hx';injection hx' with hx';subst hx'
   obtain⟨y,k1,k2,k3,k4,k5,k6⟩:=hT.kid1 h1 h0;rw[k1] at h3;injection h3 with h3;subst h3
   obtain⟨p,nx,c,e1,_,_⟩:=hT.nd h1
   have hn:¬ (1<x.r.hi∨(x.r.hi<0∧1<x.r.lo)):=by
    have h2':=h2;rw[e1] at h2';exact cn_rep0 h2' h0
   unfold Bds at k6
   have s1:SndS Q s b e i Base D0 S1:=by
    by_cases hh:x.r.hi=0
    ·rw[h5 hh];exact hs
    ·refine ih1 hh ⟨hany,?_⟩ hs
     intro y' hy' σ hσ q j hw hf;rw[k2] at hy';injection hy' with hy';subst hy'
     obtain⟨v,q',v1,v2,v3⟩:=star_fin (by omega) k2 k4 (by rw[k5];exact h1) h2 hf;rw[k5] at v3;refine hsnd _ h1 σ hσ q' j ((way_rep h0 k3).2 ⟨v+1,?_,?_,by rw[TimesW];exact⟨q,hw,v2⟩⟩) v3
     ·omega
     ·by_cases hv:v=0
      ·subst hv;omega
      ·exact .inl (v1 (by omega)).2
   by_cases hl:x.r.lo=0
   ·exact ih2 hl ⟨hany,fun l hl' j hf=>hsnd _ h1 l hl' i j ((way_rep h0 k3).2 ⟨0,by omega,by omega,rfl⟩) hf⟩ s1
   ·rw[h7 hl];exact s1
 | fin_old=>intro _ h;exact h
 | fin_root h1=>
   intro ht hs;obtain⟨l,hl⟩:=ht.1;exact⟨hs.waits,fun _=>ht.2 l hl i .root,hs.begun⟩
 | fin_next h1 h2 h3 h4 _ ih=>
   intro ht hs;refine ih ⟨ht.1,?_⟩ (hs.mark _ _ _);intro y hy l hl k j hw hf;exact ht.2 l hl j (.next h2 h3 h4 hy hw hf)
 | fin_cnt h1 h2 h3 h4 h5 h6 _ ih=>
   intro ht hs;refine ih ⟨⟨_,h5,h6⟩,ht.1,?_⟩ (hs.mark _ _ _);intro p' hp' m hm l hl j hf;rw[h5] at hp';injection hp' with hp';subst hp'
   obtain⟨p',q1,_,_,q4⟩:=hT.par _ _ h2 h3;rw[h5] at q1;injection q1 with q1;subst q1
   rw[(q4 h6).2.1] at hm;injection hm with hm;subst hm
   exact ht.2 l hl j hf
 | fin_up h1 h2 h3 h4 h5 h6 _ h7 h8 ih1 ih2=>
   rename_i n t S S1 S' x p _
   intro ht hs;have s1:=ih1 ⟨ht.1,fun l hl j hf=>ht.2 l hl j (.up h2 h3 h4 h5 h6 hf)⟩ (hs.mark _ _ _);by_cases hq:p.r.kind=6∧p.r.hi<0
   ·refine ih2 hq ⟨ht.1,?_⟩ s1
    intro y hy l hl k j hw hf;rw[h3] at hy;injection hy with hy;subst hy
    exact ht.2 l hl j (.again h2 h3 h4 h5 h6 hq.1 hq.2 hw hf)
   ·rw[h8 hq];exact s1
 | ftn_new=>intro _ h;exact h
 | ftn_old h1 h2 _ ih=>
   rename_i n t S S' ws _
   intro ht hs;refine ih ?_ hs;intro w hw;obtain⟨w1,w2,w3,w4⟩:=hW.cons _ _ h2 w hw;refine⟨w2,w3,?_⟩;intro k hk;obtain⟨σ,hσ⟩:=hW.any _ w1;have hold:∀ σ,Dn Q s b e i Base D0 w.1 σ→D0 w.1 σ:=by intro σ h;unfold Dn at h;rwa [if_pos w1] at h
   refine⟨⟨σ,by unfold Dn;rw[if_pos w1];exact hσ⟩,?_⟩;intro x hx m hm y hy l hl j hcnt;refine ht.2.2 x hx m hm (k::l) (by unfold Dn;rw[if_pos h1];exact w4 k hk l (hold l hl)) j ?_;obtain⟨⟨x',hx',hc⟩,_⟩:=ht;rw[hx] at hx';injection hx' with hx';subst hx'
   obtain⟨y',k1,k2,k3,k4,k5,k6⟩:=hT.kid1 hx (cn_6 hT hx hc);rw[k1] at hm;injection hm with hm;subst hm
   rw[k2] at hy;injection hy with hy;subst hy
   exact cnt_fin (x:=y') (p:=x) (by omega) k2 k4 (by rw[k5];exact hx) hc (by rw[k5];exact hcnt)
 | begs_nil=>intro _ h;exact h
 | begs_cons _ _ ih1 ih2=>
   intro ht hs;refine ih2 (fun w hw=>ht w (List.mem_cons_of_mem _ hw)) (ih1 ?_ hs);obtain⟨w1,⟨k,hk⟩,w3⟩:=ht _ (List.mem_cons_self ..);refine⟨by omega,⟨k+1,bit_dbl.2 ⟨k,rfl,hk⟩⟩,?_⟩;intro q hq;obtain⟨j,rfl,hj⟩:=bit_dbl.1 hq;exact w3 j hj
 | beg h1 h2 h3 h4 h5 h6 ih1 ih2=>
   rename_i n t ts S S1 S' x
   intro ht hs;obtain⟨t1,t2,t3⟩:=ht;have h0:=cn_6 hT h1 h2;obtain⟨y,k1,k2,k3,k4,k5,k6⟩:=hT.kid1 h1 h0
   have hcl:∀ k,(closN x.r (keOf Q.B Q.E x) ts).testBit k=true→SndB Q s b e i Base D0 n t k:=by
    intro k hk;rw[clos_bit k6 t1] at hk;exact clos_snd hT hB hE h1 h2 t3 hk
   have hany:∃ l,Dn Q s b e i Base D0 t l:=by obtain⟨k,hk⟩:=t2;exact(t3 k hk).1
   have s1:SndS Q s b e i Base D0 S1:=by
    by_cases hh:closN x.r (keOf Q.B Q.E x) ts >>> x.r.lo.toNat≠0
    ·refine ih1 hh ⟨hany,?_⟩ hs
     obtain⟨k,hk1,hk2⟩:=shr_bit.1 hh;intro l hl j hf;have hb:=(clos_bit k6 t1).1 hk2;refine(hcl k hk2).2 _ h1 _ k1 _ k2 l hl j (.inl ⟨?_,?_,hf⟩)
     ·omega
     ·have:=hb.1;unfold Bds at k6;unfold topQ at this;split at this <;> omega
    ·rw[h4 (by simpa using hh)];exact hs
   by_cases hh:leftN x.r (closN x.r (keOf Q.B Q.E x) ts)≠0
   ·refine ih2 hh ⟨Nat.exists_testBit_of_ne_zero hh,?_⟩ s1
    intro k hk;exact hcl k (left_bit.1 hk).1
   ·rw[h6 (by simpa using hh)];exact s1
 | btn_old h1 h2 h3 h4=>
   rename_i n t ts S x arr
   intro ht hs;refine⟨hs.waits,hs.over,?_⟩;intro n' x' hx' hc' arr' ha' t' ts' ht' k hk;unfold addB at ha';simp only[List.getElem?_set] at ha';by_cases hcc:x.cn - 1=x'.cn - 1
   ·have hnn:n=n':=hT.one _ _ _ _ h1 hx' h2 (by omega)
    subst hnn;rw[h1] at hx';injection hx' with hx';subst hx'
    rw[if_pos rfl] at ha'
    split at ha'
    ·injection ha' with ha';subst ha'
     rw[List.getElem?_set] at ht';by_cases htt:t=t'
     ·subst htt
      rw[if_pos rfl] at ht'
      split at ht'
      ·injection ht' with ht';subst ht'
       rw[Nat.testBit_or,Bool.or_eq_true] at hk
       rcases hk with hk | hk
       ·rename_i hlt
        have:arr[t]?=some ((arr[t]?).getD 0):=by rw[List.getElem?_eq_getElem hlt];rfl
        exact hs.begun _ _ h1 h2 _ h3 _ _ this k hk
       ·exact ht.2 k hk
      ·cases ht'
     ·rw[if_neg htt] at ht'
      exact hs.begun _ _ h1 h2 _ h3 _ _ ht' k hk
    ·cases ha'
   ·rw[if_neg hcc] at ha'
    exact hs.begun _ _ hx' hc' _ ha' _ _ ht' k hk
 | btn_new h1 h2 h3 h4 _ ih=>
   rename_i n t ts k S S' x _
   intro ht hs;obtain⟨y,k1,k2,k3,k4,k5,k6⟩:=hT.kid1 h1 (cn_6 hT h1 h2);rw[k1] at h4;injection h4 with h4;subst h4
   refine ih ⟨?_,?_⟩ ⟨hs.waits,hs.over,?_⟩
   ·obtain⟨⟨k,hk⟩,t2⟩:=ht
    obtain⟨⟨l,hl⟩,t3⟩:=t2 k hk;refine⟨k::l,?_⟩;unfold Dn;rw[if_neg (by omega)];exact⟨n,x,n+1,y,k,l,h1,h2,rfl,k1,k2,rfl,fun j hj=>t3 _ h1 _ k1 _ k2 l hl j hj⟩
   ·intro y' hy' l hl q j hw hf
    rw[k2] at hy';injection hy' with hy';subst hy'
    unfold Dn at hl;rw[if_neg (by omega)] at hl;obtain⟨n',x',m',y',k,l',g1,g2,g3,g4,g5,g6,g7⟩:=hl;have hnn:n=n':=hT.one _ _ _ _ h1 g1 h2 (by omega);subst hnn;rw[h1] at g1;injection g1 with g1;subst g1
    rw[k1] at g4;injection g4 with g4;subst g4
    rw[k2] at g5;injection g5 with g5;subst g5
    subst g6;refine g7 j (.inr ⟨?_,q,hw,hf⟩);obtain⟨v,q',v1,v2,_⟩:=cnt_times (by omega) k2 k4 (by rw[k5];exact h1) h2 hf;omega
   ·intro n' x' hx' hc' arr' ha' t' ts' ht' k hk
    unfold addB at ha';simp only[List.getElem?_set] at ha';by_cases hcc:x.cn - 1=x'.cn - 1
    ·have hnn:n=n':=hT.one _ _ _ _ h1 hx' h2 (by omega)
     subst hnn;rw[h1] at hx';injection hx' with hx';subst hx'
     rw[if_pos rfl] at ha'
     split at ha'
     ·injection ha' with ha';subst ha'
      rw[List.getElem?_set] at ht';by_cases htt:t=t'
      ·subst htt
       rw[if_pos rfl] at ht'
       split at ht'
       ·injection ht' with ht';subst ht'
        rw[Nat.testBit_or,Bool.or_eq_true] at hk
        rcases hk with hk | hk
        ·rw[List.getElem?_replicate] at hk
         split at hk <;> simp at hk
        ·exact ht.2 k hk
       ·cases ht'
      ·rw[if_neg htt,List.getElem?_replicate] at ht'
       split at ht'
       ·injection ht' with ht';subst ht';simp at hk
       ·cases ht'
     ·cases ha'
    ·rw[if_neg hcc] at ha'
     exact hs.begun _ _ hx' hc' _ ha' _ _ ht' k hk
end
end
inductive Enc (T:List Nd):Nat→Nat→Prop
 | here {n:Nat} {x p:Nd}:n≠0→T[n]?=some x→T[x.par]?=some p→p.cn≠0→Enc T n x.par
 | up {n m:Nat} {x p:Nd}:n≠0→T[n]?=some x→T[x.par]?=some p→p.cn=0→Enc T x.par m→Enc T n m
def VN (Q:Pm) (n t:Nat):Prop:=n<Q.T.length∧(t<Q.old∨∃ m y,Enc Q.T n m∧Q.T[m]?=some y∧y.cn≠0∧t=Q.old+y.cn - 1)
structure TabC (Q:Pm):Prop where
 ok:TabOk Q.T
 cn:∀ (n:Nat) (x:Nd),Q.T[n]?=some x→x.cn≤Q.C
 enc:∀ (n m:Nat) (x y:Nd),Enc Q.T n m→Q.T[n]?=some x→Q.T[m]?=some y→x.cn≠0→y.cn<x.cn
 tc:∀ (t:Nat) (ws:List (Nat × Nat)),Q.tc[t]?=some ws→∀ w,w∈ws→w.1<Q.old∧w.2<512
 len:Q.tc.length=Q.old
 nxt:∀ (n:Nat) (x:Nd),Q.T[n]?=some x→x.nx≠0→∃ y,Q.T[x.nx]?=some y∧y.par=x.par
theorem VN.lt {Q:Pm} (h:TabC Q) {n t:Nat} (hv:VN Q n t):t<Q.all:=by
 unfold Pm.all
 rcases hv.2 with h1 | ⟨m,y,_,h2,h3,h4⟩
 ·omega
 ·have:=h.cn _ _ h2;omega
theorem VN.kid {Q:Pm} {n t k:Nat} {x y:Nd} (hv:VN Q n t) (hx:Q.T[n]?=some x) (hc:x.cn=0) (hy:Q.T[k]?=some y) (hk:k≠0) (hp:y.par=n):VN Q k t:=by
 refine⟨(List.getElem?_eq_some_iff.1 hy).1,?_⟩
 rcases hv.2 with h1 | ⟨m,z,h1,h2,h3,h4⟩
 ·exact .inl h1
 ·exact .inr ⟨m,z,.up hk hy (by rw[hp];exact hx) hc (by rw[hp];exact h1),h2,h3,h4⟩
theorem VN.new {Q:Pm} {n k:Nat} {x y:Nd} (hx:Q.T[n]?=some x) (hc:x.cn≠0) (hy:Q.T[k]?=some y) (hk:k≠0) (hp:y.par=n):VN Q k (Q.old+x.cn - 1):=
 ⟨(List.getElem?_eq_some_iff.1 hy).1,.inr ⟨n,x,by have:=Enc.here (T:=Q.T) hk hy (by rw[hp];exact hx) hc;rwa [hp] at this,hx,hc,rfl⟩⟩
theorem VN.up {Q:Pm} {n t:Nat} {x p:Nd} (hv:VN Q n t) (hx:Q.T[n]?=some x) (hp:Q.T[x.par]?=some p) (hc:p.cn=0):VN Q x.par t:=by
 refine⟨(List.getElem?_eq_some_iff.1 hp).1,?_⟩
 rcases hv.2 with h1 | ⟨m,z,h1,h2,h3,h4⟩
 ·exact .inl h1
 ·cases h1 with
  | here a1 a2 a3 a4=>rw[hx] at a2;injection a2 with a2;subst a2;rw[hp] at a3;injection a3 with a3;subst a3;exact absurd hc a4
  | up a1 a2 a3 a4 a5=>rw[hx] at a2;injection a2 with a2;subst a2;exact .inr ⟨m,z,a5,h2,h3,h4⟩
theorem VN.sib {Q:Pm} {n t k:Nat} {x y:Nd} (hv:VN Q n t) (hx:Q.T[n]?=some x) (hy:Q.T[k]?=some y) (hk:k≠0) (he:y.par=x.par):VN Q k t:=by
 refine⟨(List.getElem?_eq_some_iff.1 hy).1,?_⟩
 rcases hv.2 with h1 | ⟨m,z,h1,h2,h3,h4⟩
 ·exact .inl h1
 ·refine .inr ⟨m,z,?_,h2,h3,h4⟩
  cases h1 with
  | here a1 a2 a3 a4=>rw[hx] at a2;injection a2 with a2;subst a2;have:=Enc.here (T:=Q.T) hk hy (by rw[he];exact a3) a4;rwa [he] at this
  | up a1 a2 a3 a4 a5=>rw[hx] at a2;injection a2 with a2;subst a2;exact .up hk hy (by rw[he];exact a3) a4 (by rw[he];exact a5)
theorem VN.low {Q:Pm} (h:TabC Q) {n t:Nat} {x:Nd} (hv:VN Q n t) (hx:Q.T[n]?=some x) (hc:x.cn≠0):t<Q.old+(x.cn - 1):=by
 rcases hv.2 with h1 | ⟨m,z,h1,h2,h3,h4⟩
 ·omega
 ·have:=h.enc _ _ _ _ h1 hx h2 hc;omega
def EE (Q:Pm) (S:LS) (n t:Nat):Prop:=n<Q.T.length∧has Q S n t 1
def FF (Q:Pm) (S:LS) (n t:Nat):Prop:=n<Q.T.length∧has Q S n t 2
def WW (S:LS) (n t:Nat):Prop:=(n,t)∈S.waits
def BitB (S:LS) (c t k:Nat):Prop:=∃ arr ts,S.begun[c]?=some arr∧arr[t]?=some ts∧ts.testBit k=true
def BB (Q:Pm) (S:LS) (n t k:Nat):Prop:=∃ x,Q.T[n]?=some x∧BitB S (x.cn - 1) t k
theorem idx_inj {P n n' t t':Nat} (hn:n<P) (hn':n'<P) (h:t * P+n=t' * P+n'):t=t'∧n=n':=by
 have h1:(t * P+n) / P=t:=by rw[Nat.mul_comm,Nat.mul_add_div (by omega),Nat.div_eq_of_lt hn];omega
 have h2:(t' * P+n') / P=t':=by rw[Nat.mul_comm,Nat.mul_add_div (by omega),Nat.div_eq_of_lt hn'];omega
 have:t=t':=by rw[←h1,←h2,h]
 subst this;exact⟨rfl,by omega⟩
theorem idx_lt {P n t m:Nat} (hn:n<P) (ht:t<m):t * P+n<m * P:=by
 calc t * P+n<t * P+P:=by omega
  _=(t+1) * P:=by rw[Nat.add_mul];omega
  _≤m * P:=Nat.mul_le_mul_right _ ht
theorem or_bits2 (a w w':Nat):(a ||| w) &&& w'≠0 ↔ a &&& w'≠0∨w &&& w'≠0:=by
 rw[Nat.and_or_distrib_right]
 constructor
 ·intro h
  by_cases h1:a &&& w'=0
  ·right;intro h2;rw[h1,h2] at h;exact h rfl
  ·exact .inl h1
 ·rintro(h | h) h1
  ·have:(a &&& w')≤(a &&& w' ||| w &&& w'):=Nat.left_le_or;omega
  ·have:(w &&& w')≤(a &&& w' ||| w &&& w'):=Nat.right_le_or;omega
structure OkS (Q:Pm) (S:LS):Prop where
 dlen:S.did.length=Q.all * Q.T.length
 blen:S.begun.length=Q.C
 arr:∀ c arr,S.begun[c]?=some arr→arr≠[]→arr.length=Q.all∧∀ t ts,arr[t]?=some ts→ts<512∧(ts≠0→t<Q.old+c)
 of:∀ c arr,S.begun[c]?=some arr→arr≠[]→∃ (n:Nat) (x:Nd),Q.T[n]?=some x∧x.cn≠0∧x.cn - 1=c
theorem has_mark {Q:Pm} {S:LS} (ho:OkS Q S) {n t w:Nat} (hn:n<Q.T.length) (ht:t<Q.all) {n' t' w':Nat} (hn':n'<Q.T.length):
  has Q (mark Q S n t w) n' t' w' ↔ has Q S n' t' w'∨(n'=n∧t'=t∧w &&& w'≠0):=by
 unfold has;by_cases h:n'=n∧t'=t
 ·obtain⟨rfl,rfl⟩:=h
  have:at_ Q (mark Q S n' t' w) n' t'=at_ Q S n' t' ||| w:=by
   unfold at_ mark
   simp only;rw[List.getElem?_set_self (by rw[ho.dlen];exact idx_lt hn' ht)];rfl
  rw[this,or_bits2];simp
 ·have:at_ Q (mark Q S n t w) n' t'=at_ Q S n' t':=by
   unfold at_ mark
   simp only;rw[List.getElem?_set_ne];intro he;have:=idx_inj hn hn' he;exact h ⟨this.2.symm,this.1.symm⟩
  rw[this]
  constructor
  ·exact .inl
  ·rintro(h1 | ⟨h1,h2,_⟩)
   ·exact h1
   ·exact absurd ⟨h1,h2⟩ h
theorem OkS.mark {Q:Pm} {S:LS} (h:OkS Q S) (n t w:Nat):OkS Q (mark Q S n t w):=⟨by unfold Go.Proofs.YtiafefjaldcpbaaDoor.mark;simp only[List.length_set];exact h.dlen,h.blen,h.arr,h.of⟩
structure LeS (Q:Pm) (S S':LS):Prop where
 has:∀ n t w,n<Q.T.length→has Q S n t w→has Q S' n t w
 beg:∀ c t k,BitB S c t k→BitB S' c t k
 wait:∀ n t,WW S n t→WW S' n t
 over:S.over=true→S'.over=true
theorem LeS.refl (Q:Pm) (S:LS):LeS Q S S:=⟨fun _ _ _ _ h=>h,fun _ _ _ h=>h,fun _ _ h=>h,fun h=>h⟩
theorem LeS.trans {Q:Pm} {S S1 S2:LS} (h:LeS Q S S1) (h':LeS Q S1 S2):LeS Q S S2:=
 ⟨fun n t w hn h1=>h'.has n t w hn (h.has n t w hn h1),fun c t k h1=>h'.beg c t k (h.beg c t k h1),fun n t h1=>h'.wait n t (h.wait n t h1),fun h1=>h'.over (h.over h1)⟩
theorem LeS.mark {Q:Pm} {S:LS} (ho:OkS Q S) {n t w:Nat} (hn:n<Q.T.length) (ht:t<Q.all):LeS Q S (mark Q S n t w):=
 ⟨fun _ _ _ hn' h=>(has_mark ho hn ht hn').2 (.inl h),fun _ _ _ h=>h,fun _ _ h=>h,fun h=>h⟩
def OblE (Q:Pm) (S:LS) (n t:Nat):Prop:=∀ x,Q.T[n]?=some x→
 (x.r.kind=1→WW S n t)∧(x.r.kind=3→Q.E=false→WW S n t)∧(x.r.kind=4→∀ k l,x.kids=k::l→EE Q S k t)∧((x.r.kind=5∨x.r.kind=7)→∀ k,k∈x.kids→EE Q S k t)∧
 (x.r.kind=6→x.cn=0→∀ k,x.kids=[k]→(x.r.hi≠0→EE Q S k t)∧(x.r.lo=0→FF Q S n t))∧
 (x.r.kind=6→x.cn≠0→BegO Q.old (EE Q S) (FF Q S) (BB Q S) x (keOf Q.B Q.E x) n t 1)∧
 ((x.r.kind=0∨x.r.kind=2∨(x.r.kind=3∧Q.E=true))→emptyE Q.B Q.E x.r=true→FF Q S n t)
def OblF (Q:Pm) (S:LS) (n t:Nat):Prop:=(n=0→S.over=true)∧(n≠0→∀ x,Q.T[n]?=some x→
 (x.nx≠0→EE Q S x.nx t)∧(x.nx=0→∀ p,Q.T[x.par]?=some p→
  (p.cn=0→FF Q S x.par t∧(p.r.kind=6→p.r.hi<0→EE Q S n t))∧
  (p.cn≠0→t<Q.old→∀ l,Q.tc[t]?=some l→∀ w,w∈l→BegO Q.old (EE Q S) (FF Q S) (BB Q S) p (keOf Q.B Q.E p) x.par w.1 (2 * w.2))))
theorem EE.le {Q:Pm} {S S':LS} (h:LeS Q S S') {n t:Nat} (he:EE Q S n t):EE Q S' n t:=⟨he.1,h.has _ _ _ he.1 he.2⟩
theorem FF.le {Q:Pm} {S S':LS} (h:LeS Q S S') {n t:Nat} (he:FF Q S n t):FF Q S' n t:=⟨he.1,h.has _ _ _ he.1 he.2⟩
theorem BegO.le {Q:Pm} {S S':LS} (h:LeS Q S S') {x:Nd} {ke:Bool} {n t ts:Nat} (hb:BegO Q.old (EE Q S) (FF Q S) (BB Q S) x ke n t ts):BegO Q.old (EE Q S') (FF Q S') (BB Q S') x ke n t ts:=by
 intro k hk;obtain⟨h1,h2⟩:=hb k hk;refine⟨fun hl=>(h1 hl).le h,fun hh=>?_⟩;obtain⟨⟨x',h3,h4⟩,h5⟩:=h2 hh;exact⟨⟨x',h3,h.beg _ _ _ h4⟩,fun m hm=>(h5 m hm).le h⟩
theorem OblE.le {Q:Pm} {S S':LS} (h:LeS Q S S') {n t:Nat} (ho:OblE Q S n t):OblE Q S' n t:=by
 intro x hx;obtain⟨a1,a2,a3,a4,a5,a6,a7⟩:=ho x hx
 exact⟨fun q=>h.wait _ _ (a1 q),fun q r=>h.wait _ _ (a2 q r),fun q k l hk=>(a3 q k l hk).le h,fun q k hk=>(a4 q k hk).le h,
  fun q r k hk=>⟨fun z=>((a5 q r k hk).1 z).le h,fun z=>((a5 q r k hk).2 z).le h⟩,fun q r=>(a6 q r).le h,fun q r=>(a7 q r).le h⟩
theorem OblF.le {Q:Pm} {S S':LS} (h:LeS Q S S') {n t:Nat} (ho:OblF Q S n t):OblF Q S' n t:=by
 refine⟨fun q=>h.over (ho.1 q),fun hn x hx=>?_⟩;obtain⟨a1,a2⟩:=ho.2 hn x hx;refine⟨fun q=>(a1 q).le h,fun q p hp=>?_⟩;obtain⟨b1,b2⟩:=a2 q p hp;exact⟨fun r=>⟨(b1 r).1.le h,fun z z'=>((b1 r).2 z z').le h⟩,fun r z l hl w hw=>(b2 r z l hl w hw).le h⟩
def KidI (Q:Pm) (S:LS):Prop:=∀ (n:Nat) (x:Nd),Q.T[n]?=some x→x.cn≠0→∀ arr,S.begun[x.cn - 1]?=some arr→arr≠[]→∀ m,x.kids=[m]→EE Q S m (Q.old+x.cn - 1)
def PreI (Q:Pm) (S:LS):Tk→Prop
 | .ent k t=>KidI Q (mark Q S k t 1)
 | _=>KidI Q S
def VT (Q:Pm):Tk→Prop
 | .ent n t=>VN Q n t
 | .fin n t=>VN Q n t
 | .rep n t=>VN Q n t∧∃ x,Q.T[n]?=some x∧x.r.kind=6
 | .ftn n _=>∃ x,Q.T[n]?=some x∧x.cn≠0
 | .beg n t ts=>VN Q n t∧ts<1024∧∃ x,Q.T[n]?=some x∧x.cn≠0
 | .btn n t ts=>VN Q n t∧ts<512∧∃ x,Q.T[n]?=some x∧x.cn≠0
 | .ents l t=>∀ k,k∈l→VN Q k t
 | .begs n l=>(∃ x,Q.T[n]?=some x∧x.cn≠0)∧∀ w,w∈l→w.1<Q.old∧w.2<512
def GoalT (Q:Pm) (S:LS):Tk→Prop
 | .ent n t=>EE Q S n t
 | .fin n t=>FF Q S n t
 | .rep n t=>∀ x,Q.T[n]?=some x→(x.cn=0→∀ k,x.kids=[k]→(x.r.hi≠0→EE Q S k t)∧(x.r.lo=0→FF Q S n t))∧(x.cn≠0→BegO Q.old (EE Q S) (FF Q S) (BB Q S) x (keOf Q.B Q.E x) n t 1)
 | .ftn n t=>t<Q.old→∀ l,Q.tc[t]?=some l→∀ w,w∈l→∀ x,Q.T[n]?=some x→BegO Q.old (EE Q S) (FF Q S) (BB Q S) x (keOf Q.B Q.E x) n w.1 (2 * w.2)
 | .beg n t ts=>∀ x,Q.T[n]?=some x→BegO Q.old (EE Q S) (FF Q S) (BB Q S) x (keOf Q.B Q.E x) n t ts
 | .btn n t ts=>∀ x,Q.T[n]?=some x→∀ k,ts.testBit k=true→BB Q S n t k∧∀ m,x.kids=[m]→EE Q S m (Q.old+x.cn - 1)
 | .ents l t=>∀ k,k∈l→EE Q S k t
 | .begs n l=>∀ w,w∈l→∀ x,Q.T[n]?=some x→BegO Q.old (EE Q S) (FF Q S) (BB Q S) x (keOf Q.B Q.E x) n w.1 (2 * w.2)
structure ResL (Q:Pm) (tk:Tk) (S S':LS):Prop where
 ok:OkS Q S'
 le:LeS Q S S'
 goal:GoalT Q S' tk
 newE:∀ n t,EE Q S' n t→EE Q S n t∨OblE Q S' n t
 newF:∀ n t,FF Q S' n t→FF Q S n t∨OblF Q S' n t
 kid:KidI Q S'
section
section
variable {Q:Pm}
theorem KidI.mark {S:LS} (h:KidI Q S) (ho:OkS Q S) {n t w:Nat} (hn:n<Q.T.length) (ht:t<Q.all):KidI Q (mark Q S n t w):=
 fun n' x hx hc arr ha hne m hm=>(h n' x hx hc arr ha hne m hm).le (LeS.mark ho hn ht)
theorem new_mark1 {S:LS} (ho:OkS Q S) {n t:Nat} (hn:n<Q.T.length) (ht:t<Q.all):
  (∀ n' t',EE Q (mark Q S n t 1) n' t'→EE Q S n' t'∨(n'=n∧t'=t))∧(∀ n' t',FF Q (mark Q S n t 1) n' t'→FF Q S n' t')∧EE Q (mark Q S n t 1) n t:=by
 refine⟨fun n' t' h=>?_,fun n' t' h=>?_,hn,(has_mark ho hn ht hn).2 (.inr ⟨rfl,rfl,by decide⟩)⟩
 ·rcases(has_mark ho hn ht h.1).1 h.2 with h1 | ⟨h1,h2,_⟩
  ·exact .inl ⟨h.1,h1⟩
  ·exact .inr ⟨h1,h2⟩
 ·rcases(has_mark ho hn ht h.1).1 h.2 with h1 | ⟨_,_,h3⟩
  ·exact⟨h.1,h1⟩
  ·exact absurd rfl h3
theorem new_mark2 {S:LS} (ho:OkS Q S) {n t:Nat} (hn:n<Q.T.length) (ht:t<Q.all):
  (∀ n' t',EE Q (mark Q S n t 2) n' t'→EE Q S n' t')∧(∀ n' t',FF Q (mark Q S n t 2) n' t'→FF Q S n' t'∨(n'=n∧t'=t))∧FF Q (mark Q S n t 2) n t:=by
 refine⟨fun n' t' h=>?_,fun n' t' h=>?_,hn,(has_mark ho hn ht hn).2 (.inr ⟨rfl,rfl,by decide⟩)⟩
 ·rcases(has_mark ho hn ht h.1).1 h.2 with h1 | ⟨_,_,h3⟩
  ·exact⟨h.1,h1⟩
  ·exact absurd rfl h3
 ·rcases(has_mark ho hn ht h.1).1 h.2 with h1 | ⟨h1,h2,_⟩
  ·exact .inl ⟨h.1,h1⟩
  ·exact .inr ⟨h1,h2⟩
theorem ResL.mark1 {S S':LS} {n t:Nat} {tk:Tk} (ho:OkS Q S) (hn:n<Q.T.length) (ht:t<Q.all) (r:ResL Q tk (mark Q S n t 1) S') (hO:OblE Q S' n t):ResL Q (.ent n t) S S':=by
 obtain⟨a1,a2,a3⟩:=new_mark1 ho hn ht;refine⟨r.ok,(LeS.mark ho hn ht).trans r.le,a3.le r.le,fun n' t' h=>?_,fun n' t' h=>?_,r.kid⟩
 ·rcases r.newE _ _ h with h1 | h1
  ·rcases a1 _ _ h1 with h2 | ⟨rfl,rfl⟩
   ·exact .inl h2
   ·exact .inr hO
  ·exact .inr h1
 ·rcases r.newF _ _ h with h1 | h1
  ·exact .inl (a2 _ _ h1)
  ·exact .inr h1
theorem ResL.mark2 {S S':LS} {n t:Nat} (ho:OkS Q S) (hn:n<Q.T.length) (ht:t<Q.all) (ok:OkS Q S') (le:LeS Q (mark Q S n t 2) S') (newE:∀ n' t',EE Q S' n' t'→EE Q (mark Q S n t 2) n' t'∨OblE Q S' n' t')
  (newF:∀ n' t',FF Q S' n' t'→FF Q (mark Q S n t 2) n' t'∨OblF Q S' n' t') (kid:KidI Q S') (hO:OblF Q S' n t):ResL Q (.fin n t) S S':=by
 obtain⟨a1,a2,a3⟩:=new_mark2 ho hn ht;refine⟨ok,(LeS.mark ho hn ht).trans le,a3.le le,fun n' t' h=>?_,fun n' t' h=>?_,kid⟩
 ·rcases newE _ _ h with h1 | h1
  ·exact .inl (a1 _ _ h1)
  ·exact .inr h1
 ·rcases newF _ _ h with h1 | h1
  ·rcases a2 _ _ h1 with h2 | ⟨rfl,rfl⟩
   ·exact .inl h2
   ·exact .inr hO
  ·exact .inr h1
theorem chainE {S1 S' S:LS} (le:LeS Q S1 S') (h1:∀ n t,EE Q S1 n t→EE Q S n t∨OblE Q S1 n t) (h2:∀ n t,EE Q S' n t→EE Q S1 n t∨OblE Q S' n t):∀ n t,EE Q S' n t→EE Q S n t∨OblE Q S' n t:=by
 intro n t h
 rcases h2 n t h with h | h
 ·rcases h1 n t h with h | h
  ·exact .inl h
  ·exact .inr (h.le le)
 ·exact .inr h
theorem chainF {S1 S' S:LS} (le:LeS Q S1 S') (h1:∀ n t,FF Q S1 n t→FF Q S n t∨OblF Q S1 n t) (h2:∀ n t,FF Q S' n t→FF Q S1 n t∨OblF Q S' n t):∀ n t,FF Q S' n t→FF Q S n t∨OblF Q S' n t:=by
 intro n t h
 rcases h2 n t h with h | h
 ·rcases h1 n t h with h | h
  ·exact .inl h
  ·exact .inr (h.le le)
 ·exact .inr h
theorem ResL.nil {S:LS} {tk:Tk} (ho:OkS Q S) (hk:KidI Q S) (hg:GoalT Q S tk):ResL Q tk S S:=⟨ho,.refl _ _,hg,fun _ _ h=> .inl h,fun _ _ h=> .inl h,hk⟩
theorem addB_ok {S:LS} (ho:OkS Q S) {n t ts:Nat} {x:Nd} {arr:List Nat} (hx:Q.T[n]?=some x) (h:TabC Q) (hc:x.cn≠0) (hv:VN Q n t) (hts:ts<512) (ha:arr.length=Q.all) (hb:∀ t ts,arr[t]?=some ts→ts<512∧(ts≠0→t<Q.old+(x.cn - 1))):
  OkS Q (addB S (x.cn - 1) t ts arr):=by
 refine⟨ho.dlen,by unfold addB;simp only[List.length_set];exact ho.blen,?_,?_⟩
 rotate_left
 ·intro c arr' h1 h2
  unfold addB at h1;simp only[List.getElem?_set] at h1
  split at h1
  ·rename_i hcc;exact⟨n,x,hx,hc,hcc⟩
  ·exact ho.of c arr' h1 h2
 intro c arr' h1 h2;unfold addB at h1;simp only[List.getElem?_set] at h1
 split at h1
 ·rename_i hcc
  split at h1
  ·injection h1 with h1;subst h1
   refine⟨by rw[List.length_set];exact ha,?_⟩;intro t' ts' h3;rw[List.getElem?_set] at h3
   split at h3
   ·rename_i htt
    split at h3
    ·rename_i hlt
     injection h3 with h3
     have h4:=hb t _ (List.getElem?_eq_getElem hlt);rw[List.getElem?_eq_getElem hlt] at h3;subst h3;refine⟨Nat.or_lt_two_pow (n:=9) (by simpa using h4.1) hts,fun _=>?_⟩;have:=hv.low h hx hc;omega
    ·cases h3
   ·have:=hb _ _ h3;exact⟨this.1,fun h=>by have:=this.2 h;omega⟩
  ·cases h1
 ·exact ho.arr c arr' h1 h2
theorem addB_le {S:LS} {c t ts:Nat} {arr:List Nat} (h:S.begun[c]?=some arr∨(S.begun[c]?=some [])):LeS Q S (addB S c t ts arr):=by
 refine⟨fun _ _ _ _ h=>h,?_,fun _ _ h=>h,fun h=>h⟩;rintro c' t' k ⟨a,u,h1,h2,h3⟩;by_cases hcc:c=c'
 ·subst hcc
  rcases h with h | h
  ·rw[h] at h1;injection h1 with h1;subst h1
   have hc:=(List.getElem?_eq_some_iff.1 h).1;by_cases ht:t=t'
   ·subst ht
    refine⟨arr.set t ((arr[t]?).getD 0 ||| ts),_,by unfold addB;simp only;rw[List.getElem?_set_self hc],List.getElem?_set_self (List.getElem?_eq_some_iff.1 h2).1,?_⟩;rw[h2,Nat.testBit_or,Option.getD_some,h3];rfl
   ·exact⟨arr.set t ((arr[t]?).getD 0 ||| ts),u,by unfold addB;simp only;rw[List.getElem?_set_self hc],by rw[List.getElem?_set_ne ht];exact h2,h3⟩
  ·rw[h] at h1;injection h1 with h1;subst h1;simp at h2
 ·exact⟨a,u,by unfold addB;simp only;rw[List.getElem?_set_ne hcc];exact h1,h2,h3⟩
theorem addB_bit {S:LS} {c t ts:Nat} {arr arr0:List Nat} (h:S.begun[c]?=some arr0) (ht:t<arr.length) {k:Nat} (hk:ts.testBit k=true):BitB (addB S c t ts arr) c t k:=by
 refine⟨arr.set t ((arr[t]?).getD 0 ||| ts),_,by unfold addB;simp only;rw[List.getElem?_set_self (List.getElem?_eq_some_iff.1 h).1],List.getElem?_set_self ht,?_⟩;rw[Nat.testBit_or,hk,Bool.or_true]
theorem run_closed (h:TabC Q) {tk:Tk} {S S':LS} (hr:Run Q tk S S'):VT Q tk→OkS Q S→PreI Q S tk→ResL Q tk S S':=by
 have nlt:∀ {n:Nat} {x:Nd},Q.T[n]?=some x→n<Q.T.length:=fun hx=>(List.getElem?_eq_some_iff.1 hx).1
 induction hr with
 | ent_old h1=>
   rename_i n t S
   intro hv ho hp
   have hk:KidI Q S:=fun n' x hx hc arr ha hne m hm=>by
    have:=hp n' x hx hc arr ha hne m hm;refine⟨this.1,?_⟩
    rcases(has_mark ho hv.1 (hv.lt h) this.1).1 this.2 with h2 | ⟨h2,h3,_⟩
    ·exact h2
    ·rw[h2,h3];exact h1
   exact .nil ho hk ⟨hv.1,h1⟩
 | ent_set h1 h2 h3 _=>
   rename_i n t S x _
   intro hv ho hp;have m:=(ho.mark n t 1);have hw:WW (wait (mark Q S n t 1) n t) n t:=List.mem_append.2 (.inr (by simp));have le:LeS Q (mark Q S n t 1) (wait (mark Q S n t 1) n t):=⟨fun _ _ _ _ h=>h,fun _ _ _ h=>h,fun _ _ h=>List.mem_append.2 (.inl h),fun h=>h⟩;refine ResL.mark1 (tk:= .ents [] t) ho hv.1 (hv.lt h) ⟨⟨m.dlen,m.blen,m.arr,m.of⟩,le,(fun k hk=>by cases hk),fun _ _ h=> .inl h,fun _ _ h=> .inl h,hp⟩ ?_;intro x' hx';rw[h2] at hx';injection hx' with hx';subst hx'
   exact⟨fun _=>hw,fun _ _=>hw,fun q=>by omega,fun q=>by omega,fun q=>by omega,fun q=>by omega,fun q=>by omega⟩
 | ent_end h1 h2 h3 h4 _=>
   rename_i n t S x _
   intro hv ho hp;have m:=(ho.mark n t 1);have hw:WW (wait (mark Q S n t 1) n t) n t:=List.mem_append.2 (.inr (by simp));have le:LeS Q (mark Q S n t 1) (wait (mark Q S n t 1) n t):=⟨fun _ _ _ _ h=>h,fun _ _ _ h=>h,fun _ _ h=>List.mem_append.2 (.inl h),fun h=>h⟩;refine ResL.mark1 (tk:= .ents [] t) ho hv.1 (hv.lt h) ⟨⟨m.dlen,m.blen,m.arr,m.of⟩,le,(fun k hk=>by cases hk),fun _ _ h=> .inl h,fun _ _ h=> .inl h,hp⟩ ?_;intro x' hx';rw[h2] at hx';injection hx' with hx';subst hx'
   exact⟨fun _=>hw,fun _ _=>hw,fun q=>by omega,fun q=>by omega,fun q=>by omega,fun q=>by omega,fun q=>by rw[h4] at q;rcases q with q | q | ⟨_,q⟩ <;> first | omega | cases q⟩
 | ent_fin h1 h2 h3 h4 _ ih=>
   intro hv ho hp;have r:=ih hv (ho.mark _ _ _) hp;refine r.mark1 ho hv.1 (hv.lt h) ?_;intro x' hx';rw[h2] at hx';injection hx' with hx';subst hx'
   exact⟨fun q=>by omega,(fun _ q=>by rw[h4] at q;cases q),fun q=>by omega,fun q=>by omega,fun q=>by omega,fun q=>by omega,fun _ _=>r.goal⟩
 | ent_rep h1 h2 h3 _ ih=>
   intro hv ho hp;have r:=ih ⟨hv,_,h2,h3⟩ (ho.mark _ _ _) hp;refine r.mark1 ho hv.1 (hv.lt h) ?_;intro x' hx';rw[h2] at hx';injection hx' with hx';subst hx'
   have g:=r.goal _ h2;exact⟨fun q=>by omega,fun q=>by omega,fun q=>by omega,fun q=>by omega,fun _ q k hk=>g.1 q k hk,fun _ q=>g.2 q,fun q=>by omega⟩
 | ent_cat h1 h2 h3 h4 _ ih=>
   rename_i n t S S' x k l _
   intro hv ho hp;obtain⟨p,nx,c,e1,e2,e3⟩:=h.ok.nd h2;have hc0:x.cn=0:=by rw[e1];exact cn_cat (by omega)
   obtain⟨z,z',l',hk⟩:∃ z z' l',x.r.kids=z::z'::l':=by have:=e3.cases;simp only[h3] at this;simpa using this
   have hL:=sub_kids e2;rw[hk,h3] at hL;simp only[decide_true] at hL
   have hkk:k=n+1:=by
    have:x.kids=kidsAt (n+1) x.r.kids:=by rw[e1];rfl
    rw[this,hk,kidsAt] at h4;injection h4 with h4;exact h4.symm
   subst hkk;obtain⟨g1,_⟩:=subL_cons hL;have hv':VN Q (n+1) t:=hv.kid h2 hc0 (sub_at g1) (by omega) rfl;have r:=ih hv' (ho.mark _ _ _) (KidI.mark hp (ho.mark _ _ _) hv'.1 (hv'.lt h));refine r.mark1 ho hv.1 (hv.lt h) ?_;intro x' hx';rw[h2] at hx';injection hx' with hx';subst hx'
   exact⟨fun q=>by omega,fun q=>by omega,fun _ k l hk=>by rw[h4] at hk;injection hk with hk;subst hk;exact r.goal,fun q=>by omega,fun q=>by omega,fun q=>by omega,fun q=>by omega⟩
 | ent_alt h1 h2 h3 _ ih=>
   rename_i n t S S' x _
   intro hv ho hp;obtain⟨p,nx,c,e1,e2,e3⟩:=h.ok.nd h2;have hc0:x.cn=0:=by rw[e1];exact cn_cat (by omega)
   have hkk:x.kids=kidsAt (n+1) x.r.kids:=by rw[e1];rfl
   have key:∀ (l:List Re) (q:Bool) (a c' k:Nat),SubL Q.T a l q n c'→0<a→k∈kidsAt a l→k≠0∧∃ y,Q.T[k]?=some y∧y.par=n:=by
    intro l
    induction l with
    | nil=>intro q a c' k _ _ h;cases h
    | cons r l ihl=>
      intro q a c' k hl ha h;obtain⟨g1,g2⟩:=subL_cons hl;rw[kidsAt] at h
      rcases List.mem_cons.1 h with h | h
      ·subst h;exact⟨by omega,_,sub_at g1,rfl⟩
      ·exact ihl _ _ _ _ g2 (by omega) h
   have r:=ih (fun k hk=>by
    rw[hkk] at hk;obtain⟨k0,y,k1,k2⟩:=key _ _ _ _ _ (sub_kids e2) (by omega) hk;exact hv.kid h2 hc0 k1 k0 k2) (ho.mark _ _ _) hp
   refine r.mark1 ho hv.1 (hv.lt h) ?_;intro x' hx';rw[h2] at hx';injection hx' with hx';subst hx'
   exact⟨fun q=>by omega,fun q=>by omega,fun q=>by omega,fun _ k hk=>r.goal k hk,fun q=>by omega,fun q=>by omega,fun q=>by omega⟩
 | ent_emp h1 h2 h3 h4 _ ih=>
   intro hv ho hp;have r:=ih hv (ho.mark _ _ _) hp;refine r.mark1 ho hv.1 (hv.lt h) ?_;intro x' hx';rw[h2] at hx';injection hx' with hx';subst hx'
   exact⟨fun q=>by omega,fun q=>by omega,fun q=>by omega,fun q=>by omega,fun q=>by omega,fun q=>by omega,fun _ _=>r.goal⟩
 | ent_not h1 h2 h3 h4=>
   rename_i n t S x
   intro hv ho hp;refine ResL.mark1 (tk:= .ents [] t) ho hv.1 (hv.lt h) (.nil (ho.mark _ _ _) hp fun k hk=>by cases hk) ?_;intro x' hx';rw[h2] at hx';injection hx' with hx';subst hx'
   exact⟨fun q=>by omega,fun q=>by omega,fun q=>by omega,fun q=>by omega,fun q=>by omega,fun q=>by omega,fun _ q=>by rw[h4] at q;cases q⟩
 | ents_nil=>intro hv ho hp;exact .nil ho hp fun k hk=>by cases hk
 | ents_cons _ _ ih1 ih2=>
   intro hv ho hp;have v1:=hv _ (List.mem_cons_self ..);have r1:=ih1 v1 ho (KidI.mark hp ho v1.1 (v1.lt h));have r2:=ih2 (fun k hk=>hv k (List.mem_cons_of_mem _ hk)) r1.ok r1.kid;refine⟨r2.ok,r1.le.trans r2.le,?_,chainE r2.le r1.newE r2.newE,chainF r2.le r1.newF r2.newF,r2.kid⟩;intro k hk
   rcases List.mem_cons.1 hk with rfl | hk
   ·exact r1.goal.le r2.le
   ·exact r2.goal k hk
 | rep_cnt h1 h2 _ ih=>
   intro hv ho hp;have r:=ih ⟨hv.1,by decide,_,h1,h2⟩ ho hp;refine⟨r.ok,r.le,?_,r.newE,r.newF,r.kid⟩;intro x' hx';rw[h1] at hx';injection hx' with hx';subst hx'
   exact⟨fun q=>absurd q h2,fun _=>r.goal _ h1⟩
 | rep_pln h1 h2 h3 h4 h5 h6 h7 ih1 ih2=>
   rename_i n t k S S1 S' x
   intro hv ho hp;obtain⟨hv,x',hx',h0⟩:=hv;rw[h1] at hx';injection hx' with hx';subst hx'
   obtain⟨y,k1,k2,k3,k4,k5,k6⟩:=h.ok.kid1 h1 h0;have h3':=h3;rw[k1] at h3;injection h3 with h3;subst h3
   have vk:VN Q (n+1) t:=hv.kid h1 h2 k2 (by omega) k5
   have r1:ResL Q (.ents [] t) S S1∧(x.r.hi≠0→EE Q S1 (n+1) t):=by
    by_cases hh:x.r.hi=0
    ·rw[h5 hh];exact⟨.nil ho hp (fun k hk=>by cases hk),fun q=>absurd hh q⟩
    ·have r:=ih1 hh vk ho (KidI.mark hp ho vk.1 (vk.lt h))
     exact⟨⟨r.ok,r.le,(fun k hk=>by cases hk),r.newE,r.newF,r.kid⟩,fun _=>r.goal⟩
   obtain⟨r1,g1⟩:=r1
   have r2:ResL Q (.ents [] t) S1 S'∧(x.r.lo=0→FF Q S' n t):=by
    by_cases hh:x.r.lo=0
    ·have r:=ih2 hh hv r1.ok r1.kid
     exact⟨⟨r.ok,r.le,(fun k hk=>by cases hk),r.newE,r.newF,r.kid⟩,fun _=>r.goal⟩
    ·rw[h7 hh];exact⟨.nil r1.ok r1.kid (fun k hk=>by cases hk),fun q=>absurd q hh⟩
   obtain⟨r2,g2⟩:=r2;refine⟨r2.ok,r1.le.trans r2.le,?_,chainE r2.le r1.newE r2.newE,chainF r2.le r1.newF r2.newF,r2.kid⟩;intro x' hx';rw[h1] at hx';injection hx' with hx';subst hx'
   refine⟨fun _ k hk=>?_,fun q=>absurd h2 q⟩;rw[h3'] at hk;injection hk with hk;subst hk
   exact⟨fun q=>(g1 q).le r2.le,g2⟩
 | fin_old h1=>intro hv ho hp;exact .nil ho hp ⟨hv.1,h1⟩
 | fin_root h1=>
   rename_i t S
   intro hv ho hp;have m:=ho.mark 0 t 2;refine ResL.mark2 ho hv.1 (hv.lt h) ⟨m.dlen,m.blen,m.arr,m.of⟩ ⟨fun _ _ _ _ h=>h,fun _ _ _ h=>h,fun _ _ h=>h,fun _=>rfl⟩ (fun _ _ h=> .inl h) (fun _ _ h=> .inl h) (KidI.mark hp ho hv.1 (hv.lt h)) ?_;exact⟨fun _=>rfl,fun q=>absurd rfl q⟩
 | fin_next h1 h2 h3 h4 _ ih=>
   rename_i n t S S' x _
   intro hv ho hp;obtain⟨p,q1,_,_,_⟩:=h.ok.par _ _ h2 h3;obtain⟨y,y1,y2⟩:=h.nxt _ _ h3 h4;have hv':VN Q x.nx t:=hv.sib h3 y1 h4 y2;have hp':=KidI.mark (w:=2) hp ho hv.1 (hv.lt h);have r:=ih hv' (ho.mark _ _ _) (KidI.mark hp' (ho.mark _ _ _) hv'.1 (hv'.lt h));refine ResL.mark2 ho hv.1 (hv.lt h) r.ok r.le r.newE r.newF r.kid ⟨fun q=>absurd q h2,fun _ x' hx'=>?_⟩;rw[h3] at hx';injection hx' with hx';subst hx'
   exact⟨fun _=>r.goal,fun q=>absurd q h4⟩
 | fin_cnt h1 h2 h3 h4 h5 h6 _ ih=>
   intro hv ho hp;have r:=ih ⟨_,h5,h6⟩ (ho.mark _ _ _) (KidI.mark hp ho hv.1 (hv.lt h));refine ResL.mark2 ho hv.1 (hv.lt h) r.ok r.le r.newE r.newF r.kid ⟨fun q=>absurd q h2,fun _ x' hx'=>?_⟩;rw[h3] at hx';injection hx' with hx';subst hx'
   refine⟨fun q=>absurd h4 q,fun _ p' hp'=>?_⟩;rw[h5] at hp';injection hp' with hp';subst hp'
   exact⟨fun q=>absurd q h6,fun _ ht l hl w hw=>r.goal ht l hl w hw _ h5⟩
 | fin_up h1 h2 h3 h4 h5 h6 _ h7 h8 ih1 ih2=>
   rename_i n t S S1 S' x p _
   intro hv ho hp;have r1:=ih1 (hv.up h3 h5 h6) (ho.mark _ _ _) (KidI.mark hp ho hv.1 (hv.lt h))
   have r2:ResL Q (.ents [] t) S1 S'∧(p.r.kind=6→p.r.hi<0→EE Q S' n t):=by
    by_cases hh:p.r.kind=6∧p.r.hi<0
    ·have r:=ih2 hh hv r1.ok (KidI.mark r1.kid r1.ok hv.1 (hv.lt h))
     exact⟨⟨r.ok,r.le,(fun k hk=>by cases hk),r.newE,r.newF,r.kid⟩,fun _ _=>r.goal⟩
    ·rw[h8 hh];exact⟨.nil r1.ok r1.kid (fun k hk=>by cases hk),fun q q'=>absurd ⟨q,q'⟩ hh⟩
   obtain⟨r2,g2⟩:=r2;refine ResL.mark2 ho hv.1 (hv.lt h) r2.ok (r1.le.trans r2.le) (chainE r2.le r1.newE r2.newE) (chainF r2.le r1.newF r2.newF) r2.kid ⟨fun q=>absurd q h2,fun _ x' hx'=>?_⟩;rw[h3] at hx';injection hx' with hx';subst hx'
   refine⟨fun q=>absurd h4 q,fun _ p' hp'=>?_⟩;rw[h5] at hp';injection hp' with hp';subst hp'
   exact⟨fun _=>⟨r1.goal.le r2.le,g2⟩,fun q=>absurd h6 q⟩
 | ftn_new h1=>intro hv ho hp;exact .nil ho hp fun q=>by omega
 | ftn_old h1 h2 _ ih=>
   intro hv ho hp;have r:=ih ⟨hv,fun w hw=>h.tc _ _ h2 w hw⟩ ho hp;refine⟨r.ok,r.le,?_,r.newE,r.newF,r.kid⟩;intro _ l hl w hw x hx;rw[h2] at hl;injection hl with hl;subst hl
   exact r.goal w hw x hx
 | begs_nil=>intro hv ho hp;exact .nil ho hp fun k hk=>by cases hk
 | begs_cons _ _ ih1 ih2=>
   intro hv ho hp;obtain⟨⟨x,hx,hc⟩,hv⟩:=hv;have v1:=hv _ (List.mem_cons_self ..);have r1:=ih1 ⟨⟨nlt hx,.inl v1.1⟩,by omega,x,hx,hc⟩ ho hp;have r2:=ih2 ⟨⟨x,hx,hc⟩,fun k hk=>hv k (List.mem_cons_of_mem _ hk)⟩ r1.ok r1.kid;refine⟨r2.ok,r1.le.trans r2.le,?_,chainE r2.le r1.newE r2.newE,chainF r2.le r1.newF r2.newF,r2.kid⟩;intro k hk x' hx'
   rcases List.mem_cons.1 hk with rfl | hk
   ·exact(r1.goal x' hx').le r2.le
   ·exact r2.goal k hk x' hx'
 | beg h1 h2 h3 h4 h5 h6 ih1 ih2=>
   rename_i n t ts S S1 S' x
   intro hv ho hp;obtain⟨hv,hts,_⟩:=hv;obtain⟨y,k1,k2,k3,k4,k5,k6⟩:=h.ok.kid1 h1 (cn_6 h.ok h1 h2)
   have r1:ResL Q (.ents [] t) S S1∧(closN x.r (keOf Q.B Q.E x) ts >>> x.r.lo.toNat≠0→FF Q S1 n t):=by
    by_cases hh:closN x.r (keOf Q.B Q.E x) ts >>> x.r.lo.toNat≠0
    ·have r:=ih1 hh hv ho hp
     exact⟨⟨r.ok,r.le,(fun k hk=>by cases hk),r.newE,r.newF,r.kid⟩,fun _=>r.goal⟩
    ·rw[h4 (by simpa using hh)];exact⟨.nil ho hp (fun k hk=>by cases hk),fun q=>absurd q hh⟩
   obtain⟨r1,g1⟩:=r1
   have r2:ResL Q (.ents [] t) S1 S'∧(∀ k,(leftN x.r (closN x.r (keOf Q.B Q.E x) ts)).testBit k=true→BB Q S' n t k∧∀ m,x.kids=[m]→EE Q S' m (Q.old+x.cn - 1)):=by
    by_cases hh:leftN x.r (closN x.r (keOf Q.B Q.E x) ts)≠0
    ·have r:=ih2 hh ⟨hv,Nat.lt_of_le_of_lt left_le (clos_lt k6),x,h1,h2⟩ r1.ok r1.kid
     exact⟨⟨r.ok,r.le,(fun k hk=>by cases hk),r.newE,r.newF,r.kid⟩,fun k hk=>r.goal _ h1 k hk⟩
    ·have hh':leftN x.r (closN x.r (keOf Q.B Q.E x) ts)=0:=by simpa using hh
     rw[h6 hh'];refine⟨.nil r1.ok r1.kid (fun k hk=>by cases hk),fun k hk=>?_⟩;rw[hh'] at hk;simp at hk
   obtain⟨r2,g2⟩:=r2;refine⟨r2.ok,r1.le.trans r2.le,?_,chainE r2.le r1.newE r2.newE,chainF r2.le r1.newF r2.newF,r2.kid⟩;intro x' hx' k hk;rw[h1] at hx';injection hx' with hx';subst hx'
   have hb:=(clos_bit k6 hts).2 hk;refine⟨fun hl=>(g1 (shr_bit.2 ⟨k,by omega,hb⟩)).le r2.le,fun hh=>g2 k (left_bit.2 ⟨hb,?_⟩)⟩;omega
 | btn_old h1 h2 h3 h4=>
   rename_i n t ts S x arr
   intro hv ho hp;obtain⟨hv,hts,_⟩:=hv;obtain⟨a1,a2⟩:=ho.arr _ _ h3 h4;have le:=addB_le (Q:=Q) (t:=t) (ts:=ts) (.inl h3);have hlt:=hv.lt h;refine⟨addB_ok ho h1 h h2 hv hts a1 a2,le,?_,fun _ _ h=> .inl h,fun _ _ h=> .inl h,?_⟩
   ·intro x' hx' k hk
    rw[h1] at hx';injection hx' with hx';subst hx'
    exact⟨⟨x,h1,addB_bit h3 (by omega) hk⟩,fun m hm=>(hp n x h1 h2 arr h3 h4 m hm).le le⟩
   ·intro n' x' hx' hc' arr' ha' hne' m hm
    by_cases hcc:x.cn - 1=x'.cn - 1
    ·have hnn:n=n':=h.ok.one _ _ _ _ h1 hx' h2 (by omega)
     subst hnn;rw[h1] at hx';injection hx' with hx';subst hx'
     exact(hp n x h1 h2 arr h3 h4 m hm).le le
    ·unfold addB at ha'
     simp only at ha';rw[List.getElem?_set_ne hcc] at ha';exact(hp n' x' hx' hc' arr' ha' hne' m hm).le le
 | btn_new h1 h2 h3 h4 _ ih=>
   rename_i n t ts k S S' x _
   intro hv ho hp;obtain⟨hv,hts,_⟩:=hv;obtain⟨y,k1,k2,k3,k4,k5,k6⟩:=h.ok.kid1 h1 (cn_6 h.ok h1 h2);have h4':=h4;rw[k1] at h4;injection h4 with h4;subst h4
   have le:=addB_le (Q:=Q) (t:=t) (ts:=ts) (arr:=List.replicate Q.all 0) (.inr h3);have vk:VN Q (n+1) (Q.old+x.cn - 1):= .new h1 h2 k2 (by omega) k5
   have ho':OkS Q (addB S (x.cn - 1) t ts (List.replicate Q.all 0)):=by
    refine addB_ok ho h1 h h2 hv hts (List.length_replicate ..) ?_;intro t' ts' ht';rw[List.getElem?_replicate] at ht'
    split at ht'
    ·injection ht' with ht';subst ht';exact⟨by decide,fun q=>absurd rfl q⟩
    ·cases ht'
   have r:=ih vk ho' (by
    intro n' x' hx' hc' arr' ha' hne' m hm;by_cases hcc:x.cn - 1=x'.cn - 1
    ·have hnn:n=n':=h.ok.one _ _ _ _ h1 hx' h2 (by omega)
     subst hnn;rw[h1] at hx';injection hx' with hx';subst hx'
     rw[k1] at hm;injection hm with hm;subst hm
     exact(new_mark1 ho' vk.1 (vk.lt h)).2.2
    ·change (addB S (x.cn - 1) t ts (List.replicate Q.all 0)).begun[x'.cn - 1]?=some arr' at ha'
     unfold addB at ha';simp only at ha';rw[List.getElem?_set_ne hcc] at ha';exact(hp n' x' hx' hc' arr' ha' hne' m hm).le (le.trans (LeS.mark ho' vk.1 (vk.lt h))))
   refine⟨r.ok,le.trans r.le,?_,r.newE,r.newF,r.kid⟩;intro x' hx' q hq;rw[h1] at hx';injection hx' with hx';subst hx'
   refine⟨⟨x,h1,r.le.beg _ _ _ (addB_bit h3 (by rw[List.length_replicate];exact hv.lt h) hq)⟩,fun m hm=>?_⟩;rw[h4'] at hm;injection hm with hm;subst hm
   exact r.goal
end
end
theorem cn_range (R:Re):∀ {T:List Nd} {N P NX C:Nat},Sub T N R P NX C→∀ m x,N≤m→m<N+sizeE R→T[m]?=some x→x.cn≠0→C<x.cn∧x.cn≤C+cntE R:=by
 induction R using Re.ind with
 | h k S ks lo hi g ih=>
   intro T N P NX C h m x h1 h2 hx hc;have hk:=sub_kids h;rw[sizeE] at h2;rw[cntE];by_cases hm:m=N
   ·subst hm
    rw[sub_at h] at hx;injection hx with hx;subst hx
    unfold ndOf at hc ⊢;simp only[ne_eq,ite_eq_right_iff,Nat.add_eq_zero_iff,Nat.one_ne_zero,and_false,imp_false,Bool.not_eq_true,Bool.not_eq_false] at hc;simp only[hc,if_true];omega
   ·have hL:∀ (l:List Re),(∀ r∈l,r∈ks)→∀ a c q,SubL T a l q N c→a≤m→m<a+sizeL l→c<x.cn∧x.cn≤c+cntL l:=by
     intro l
     induction l with
     | nil=>intro _ a c q _ h3 h4;rw[sizeL] at h4;omega
     | cons y l ihl=>
       intro hy a c q h3 h4 h5;obtain⟨s1,s2⟩:=subL_cons h3;rw[sizeL] at h5;rw[cntL];by_cases hcc:m<a+sizeE y
       ·have:=ih y (hy y (List.mem_cons_self ..)) s1 m x h4 hcc hx hc;omega
       ·have:=ihl (fun z hz=>hy z (List.mem_cons_of_mem _ hz)) _ _ _ s2 (by omega) (by omega);omega
    have:=hL ks (fun _ h=>h) _ _ _ hk (by omega) (by omega);by_cases hq:cntQ (Re.mk k S ks lo hi g)=true
    ·rw[if_pos hq] at this ⊢;omega
    ·rw[if_neg hq] at this ⊢;omega
theorem cn_inc (R:Re):∀ {T:List Nd} {N P NX C:Nat},Sub T N R P NX C→∀ m m' x x',N≤m→m<m'→m'<N+sizeE R→T[m]?=some x→T[m']?=some x'→x.cn≠0→x'.cn≠0→x.cn<x'.cn:=by
 induction R using Re.ind with
 | h k S ks lo hi g ih=>
   intro T N P NX C h m m' x x' h1 h2 h3 hx hx' hc hc';have hk:=sub_kids h;rw[sizeE] at h3;by_cases hm:m=N
   ·subst hm
    rw[sub_at h] at hx;injection hx with hx;subst hx
    have hL:∀ (l:List Re) a c q,SubL T a l q m c→a≤m'→m'<a+sizeL l→c<x'.cn:=by
     intro l
     induction l with
     | nil=>intro a c q _ h3 h4;rw[sizeL] at h4;omega
     | cons y l ihl=>
       intro a c q h3 h4 h5;obtain⟨s1,s2⟩:=subL_cons h3;rw[sizeL] at h5;by_cases hcc:m'<a+sizeE y
       ·exact(cn_range y s1 m' x' h4 hcc hx' hc').1
       ·have:=ihl _ _ _ s2 (by omega) (by omega);omega
    have:=hL ks _ _ _ hk (by omega) (by omega);unfold ndOf at hc ⊢;simp only[ne_eq,ite_eq_right_iff,Nat.add_eq_zero_iff,Nat.one_ne_zero,and_false,imp_false,Bool.not_eq_true,Bool.not_eq_false] at hc;simp only[hc,if_true] at this ⊢;exact this
   ·have hL:∀ (l:List Re),(∀ r∈l,r∈ks)→∀ a c q,SubL T a l q N c→a≤m→m'<a+sizeL l→x.cn<x'.cn:=by
     intro l
     induction l with
     | nil=>intro _ a c q _ h3 h4;rw[sizeL] at h4;omega
     | cons y l ihl=>
       intro hy a c q h3 h4 h5;obtain⟨s1,s2⟩:=subL_cons h3;rw[sizeL] at h5;by_cases hcc:m'<a+sizeE y
       ·exact ih y (hy y (List.mem_cons_self ..)) s1 m m' x x' h4 h2 hcc hx hx' hc hc'
       ·by_cases hc2:m<a+sizeE y
        ·have g1:=cn_range y s1 m x h4 hc2 hx hc
         have hL2:∀ (l:List Re) a c q,SubL T a l q N c→a≤m'→m'<a+sizeL l→c<x'.cn:=by
          intro l
          induction l with
          | nil=>intro a c q _ h3 h4;rw[sizeL] at h4;omega
          | cons y l ihl=>
            intro a c q h3 h4 h5;obtain⟨s1,s2⟩:=subL_cons h3;rw[sizeL] at h5;by_cases hcc:m'<a+sizeE y
            ·exact(cn_range y s1 m' x' h4 hcc hx' hc').1
            ·have:=ihl _ _ _ s2 (by omega) (by omega);omega
         have:=hL2 l _ _ _ s2 (by omega) (by omega);omega
        ·exact ihl (fun z hz=>hy z (List.mem_cons_of_mem _ hz)) _ _ _ s2 (by omega) (by omega)
    exact hL ks (fun _ h=>h) _ _ _ hk (by omega) (by omega)
theorem sub_par (R:Re):∀ {T:List Nd} {N P NX C:Nat},Sub T N R P NX C→∀ m,N<m→m<N+sizeE R→
  ∃ r p nx c rp pp nxp cp,Sub T m r p nx c∧Sub T p rp pp nxp cp∧p<m∧m∈kidsAt (p+1) rp.kids∧r∈rp.kids∧(nx≠0→∃ y,T[nx]?=some y∧y.par=p)∧(rp.kids=[r]→nx=0∧m=p+1):=by
 induction R using Re.ind with
 | h k S ks lo hi g ih=>
   intro T N P NX C h m h1 h2;have hk:=sub_kids h;rw[sizeE] at h2
   have hL:∀ (l:List Re) (pre:List Re),ks=pre++l→∀ a c q,SubL T a l q N c→(∀ z,z∈kidsAt a l→z∈kidsAt (N+1) ks)→(pre=[]→a=N+1)→a≤m→m<a+sizeL l→N<a→
     ∃ r p nx c rp pp nxp cp,Sub T m r p nx c∧Sub T p rp pp nxp cp∧p<m∧m∈kidsAt (p+1) rp.kids∧r∈rp.kids∧(nx≠0→∃ y,T[nx]?=some y∧y.par=p)∧(rp.kids=[r]→nx=0∧m=p+1):=by
    intro l
    induction l with
    | nil=>intro _ _ a c q _ _ _ h3 h4;rw[sizeL] at h4;omega
    | cons y l ihl=>
      intro pre hpre a c q h3 hz ha h4 h5 hN;obtain⟨s1,s2⟩:=subL_cons h3;rw[sizeL] at h5;have hyk:y∈ks:=by rw[hpre];exact List.mem_append.2 (.inr (List.mem_cons_self ..))
      by_cases hcc:m<a+sizeE y
      ·by_cases hma:m=a
       ·subst hma
        refine⟨y,N,_,c,_,_,_,_,s1,h,hN,hz _ (by rw[kidsAt];exact List.mem_cons_self ..),hyk,?_,?_⟩
        ·intro hne
         split at hne
         ·rename_i hq
          cases l with
          | nil=>exact absurd rfl hq.2
          | cons y' l'=>
            obtain⟨s3,_⟩:=subL_cons s2;rw[if_pos hq];exact⟨_,sub_at s3,rfl⟩
         ·exact absurd rfl hne
        ·intro hone
         change ks=[y] at hone
         rw[hpre] at hone;have hl:=congrArg List.length hone;rw[List.length_append,List.length_cons,List.length_singleton] at hl;have hp0:pre=[]:=List.eq_nil_of_length_eq_zero (by omega);have hl0:l=[]:=List.eq_nil_of_length_eq_zero (by omega);subst hl0;exact⟨by simp,ha hp0⟩
       ·exact ih y hyk s1 m (by omega) hcc
      ·have hsz:=sizeE_pos y
       exact ihl (pre++[y]) (by rw[hpre];simp) _ _ _ s2 (fun z hz'=>hz z (by rw[kidsAt];exact List.mem_cons_of_mem _ hz')) (by simp) (by omega) (by omega) (by omega)
   exact hL ks [] rfl _ _ _ hk (fun _ h=>h) (fun _=>rfl) (by omega) (by omega) (by omega)
theorem enc_lt {T:List Nd} (hp:∀ (n:Nat) (x:Nd),n≠0→T[n]?=some x→x.par<n) {n m:Nat} (h:Enc T n m):m<n∧∃ y,T[m]?=some y∧y.cn≠0:=by
 induction h with
 | here a1 a2 a3 a4=>exact⟨hp _ _ a1 a2,_,a3,a4⟩
 | up a1 a2 a3 a4 a5 ih=>exact⟨by have:=hp _ _ a1 a2;omega,ih.2⟩
theorem tab_ok {R:Re} (hR:Fine R):TabOk (tabE R 0 0 0 0)∧(∀ (n:Nat) (x:Nd),(tabE R 0 0 0 0)[n]?=some x→x.cn≤cntE R)∧
  (∀ (n m:Nat) (x y:Nd),Enc (tabE R 0 0 0 0) n m→(tabE R 0 0 0 0)[n]?=some x→(tabE R 0 0 0 0)[m]?=some y→x.cn≠0→y.cn<x.cn)∧
  (∀ (n:Nat) (x:Nd),(tabE R 0 0 0 0)[n]?=some x→x.nx≠0→∃ y,(tabE R 0 0 0 0)[x.nx]?=some y∧y.par=x.par):=by
 have h0:Sub (tabE R 0 0 0 0) 0 R 0 0 0:=⟨[],by simp⟩
 have hlt:∀ {n:Nat} {x:Nd},(tabE R 0 0 0 0)[n]?=some x→n<0+sizeE R:=by
  intro n x hx;have:=(List.getElem?_eq_some_iff.1 hx).1;rw[tab_len] at this;omega
 have hsub:∀ (n:Nat) (x:Nd),(tabE R 0 0 0 0)[n]?=some x→∃ p nx c,Sub (tabE R 0 0 0 0) n x.r p nx c∧Fine x.r:=by
  intro n x hx;obtain⟨r,p,nx,c,h1,h2⟩:=good_all R hR h0 n (Nat.zero_le _) (hlt hx);rw[sub_at h1] at hx;injection hx with hx;subst hx
  exact⟨p,nx,c,h1,h2⟩
 have hpar:∀ (n:Nat) (x:Nd),n≠0→(tabE R 0 0 0 0)[n]?=some x→x.par<n:=by
  intro n x hn hx;obtain⟨r,p,nx,c,rp,pp,nxp,cp,h1,h2,h3,_⟩:=sub_par R h0 n (by omega) (hlt hx);rw[sub_at h1] at hx;injection hx with hx;subst hx
  exact h3
 refine⟨⟨hsub,?_,?_,⟨_,sub_at h0⟩⟩,?_,?_,?_⟩
 ·intro n x hn hx
  obtain⟨r,p,nx,c,rp,pp,nxp,cp,h1,h2,h3,h4,h5,h6,h7⟩:=sub_par R h0 n (by omega) (hlt hx);rw[sub_at h1] at hx;injection hx with hx;subst hx
  refine⟨_,sub_at h2,h4,h3,fun hc=>?_⟩;obtain⟨_,_,_,_,hf⟩:=hsub _ _ (sub_at h2);have h6':=(cn_rep hc).1
  obtain⟨z,hz⟩:∃ z,rp.kids=[z]:=by
   have h9:Fine rp:=hf
   rcases h9.cases with ⟨q,_⟩ | ⟨q,_⟩ | ⟨q,_⟩ | ⟨q,_⟩ | ⟨q,_⟩ | ⟨q,_⟩ | ⟨_,q,_⟩ | ⟨q,_⟩
   all_goals first | exact q | omega
  rw[hz] at h5;rw[List.mem_singleton] at h5;subst h5;obtain⟨g1,g2⟩:=h7 hz;refine⟨g1,?_,hz⟩;show kidsAt (p+1) rp.kids=[n];rw[hz,kidsAt,kidsAt,g2]
 ·intro n n' x x' hx hx' hc he
  rcases Nat.lt_trichotomy n n' with h | h | h
  ·have:=cn_inc R h0 n n' x x' (Nat.zero_le _) h (hlt hx') hx hx' hc (by omega);omega
  ·exact h
  ·have:=cn_inc R h0 n' n x' x (Nat.zero_le _) h (hlt hx) hx' hx (by omega) hc;omega
 ·intro n x hx
  by_cases hc:x.cn=0
  ·omega
  ·have:=cn_range R h0 n x (Nat.zero_le _) (hlt hx) hx hc;omega
 ·intro n m x y he hx hy hc
  obtain⟨h1,y',h2,h3⟩:=enc_lt hpar he;rw[hy] at h2;injection h2 with h2;subst h2
  exact cn_inc R h0 m n y x (Nat.zero_le _) h1 (hlt hx) hy hx h3 hc
 ·intro n x hx hne
  by_cases hn:n=0
  ·subst hn;rw[sub_at h0] at hx;injection hx with hx;subst hx;exact absurd rfl hne
  ·obtain⟨r,p,nx,c,rp,pp,nxp,cp,h1,h2,h3,h4,h5,h6,h7⟩:=sub_par R h0 n (by omega) (hlt hx)
   rw[sub_at h1] at hx;injection hx with hx;subst hx
   exact h6 hne
end Go.Proofs.YtiafefjaldcpbaaDoor
