import Derived.Test.YtiafefjaldcpbaaDoorV14
import Derived.Test.YtiafefjaldcpbaaDoorK5
import Derived.Test.YtiafefjaldcpbaaDoorStab4
import Derived.Test.YtiafefjaldcpbaaDoorV1
import Derived.Test.YtiafefjaldcpbaaDoorPrint2
namespace Go.Proofs.YtiafefjaldcpbaaDoor
open Go Go.RowKit
section
structure KInv (Z:Nat→Prop) (T:Turns) (all:Nat) (to:List Nat) (K:Turns):Prop where
 len:to.length=all
 z0:Z 0
 zero:∀ (k:Nat),Z k→to[k]?=some 0
 turns:TurnsOk K
 cnt:K.length≤1+(to.filter (fun x=>decide (x≠0))).length
 ws:∀ (t:Nat) (ws:List (Nat × Nat)),K[t]?=some ws→ws.length≤1000000
 of:∀ (n m:Nat),to[n]?=some m→m≠0→m<K.length∧∀ l,InT K m l ↔ InT T n l
structure KRes (T K:Turns) (n m:Nat):Prop where
 lt:m<K.length
 ne:n≠0→m≠0
 of:∀ l,InT K m l ↔ InT T n l
theorem inT_ext {K X:Turns} (hk:TurnsOk K) {m:Nat} {l:List Nat} (h:m<K.length):InT (K++X) m l ↔ InT K m l:=by
 constructor
 ·intro hi
  induction hi with
  | zero=>exact .zero
  | step h1 h2 h3 _ ih=>
    rw[List.getElem?_append_left h] at h1;have:=(hk.cons _ _ h1 _ h2).1;exact .step h1 h2 h3 (ih (by omega))
 ·intro hi
  induction hi with
  | zero=>exact .zero
  | step h1 h2 h3 _ ih=>
    have:=(hk.cons _ _ h1 _ h2).1;exact .step (by rw[List.getElem?_append_left h];exact h1) h2 h3 (ih (by omega))
theorem inT_iff {T:Turns} {n:Nat} {ws:List (Nat × Nat)} (h:T[n]?=some ws) (h0:n≠0) {l:List Nat}:InT T n l ↔ ∃ c l',l=c::l'∧∃ y,y∈ws∧y.2.testBit c=true∧InT T y.1 l':=by
 constructor
 ·intro hi
  cases hi with
  | zero=>exact absurd rfl h0
  | step h1 h2 h3 h4=>rw[h] at h1;injection h1 with h1;subst h1;exact⟨_,_,rfl,_,h2,h3,h4⟩
 ·rintro⟨c,l',rfl,y,h2,h3,h4⟩
  exact .step h h2 h3 h4
theorem KRes.ext {T K X:Turns} (hk:TurnsOk K) {n m:Nat} (h:KRes T K n m):KRes T (K++X) n m:=
 ⟨by rw[List.length_append];have:=h.lt;omega,h.ne,fun l=>by rw[inT_ext hk h.lt];exact h.of l⟩
theorem KRes.zero {T K:Turns} (hk:TurnsOk K) (h0:T[0]?=some []):KRes T K 0 0:=by
 refine⟨(List.getElem?_eq_some_iff.1 hk.zero).1,fun h=>absurd rfl h,fun l=>?_⟩
 constructor
 ·intro hi
  cases hi with
  | zero=>exact .zero
  | step h1 h2 _ _=>rw[hk.zero] at h1;injection h1 with h1;subst h1;cases h2
 ·intro hi
  cases hi with
  | zero=>exact .zero
  | step h1 h2 _ _=>rw[h0] at h1;injection h1 with h1;subst h1;cases h2
structure NewI (T K:Turns) (pre kept:List (Nat × Nat)):Prop where
 ok:∀ x,x∈kept→x.1<K.length∧x.2<512∧x.2≠0
 len:kept.length≤pre.length
 ne:pre≠[]→kept≠[]
 of:∀ c l,(∃ x,x∈kept∧x.2.testBit c=true∧InT K x.1 l) ↔ ∃ y,y∈pre∧y.2.testBit c=true∧InT T y.1 l
theorem NewI.nil (T K:Turns):NewI T K [] []:=⟨fun x h=>(by cases h),Nat.le_refl _,fun h=>absurd rfl h,fun c l=>⟨fun ⟨x,h,_⟩=>(by cases h),fun ⟨x,h,_⟩=>(by cases h)⟩⟩
theorem NewI.ext {T K X:Turns} (hk:TurnsOk K) {pre kept:List (Nat × Nat)} (h:NewI T K pre kept):NewI T (K++X) pre kept:=by
 refine⟨fun x hx=>?_,h.len,h.ne,fun c l=>?_⟩
 ·obtain⟨a,b,d⟩:=h.ok x hx
  exact⟨by rw[List.length_append];omega,b,d⟩
 ·rw[←h.of c l]
  constructor
  ·rintro⟨x,h1,h2,h3⟩;exact⟨x,h1,h2,(inT_ext hk (h.ok x h1).1).1 h3⟩
  ·rintro⟨x,h1,h2,h3⟩;exact⟨x,h1,h2,(inT_ext hk (h.ok x h1).1).2 h3⟩
theorem mem_insAt {l:List (Nat × Nat)} {i:Nat} {a x:Nat × Nat}:x∈insAt l i a ↔ x=a∨x∈l:=by
 unfold insAt;rw[List.mem_append,List.mem_cons]
 constructor
 ·rintro(h | h | h)
  ·exact .inr (List.mem_of_mem_take h)
  ·exact .inl h
  ·exact .inr (List.mem_of_mem_drop h)
 ·rintro(h | h)
  ·exact .inr (.inl h)
  ·rw[←List.take_append_drop i l,List.mem_append] at h
   rcases h with h | h
   ·exact .inl h
   ·exact .inr (.inr h)
theorem NewI.ins {T K:Turns} {pre kept:List (Nat × Nat)} (h:NewI T K pre kept) {y:Nat × Nat} {to:Nat} (hr:KRes T K y.1 to) (h2:y.2<512) (h3:y.2≠0) (p:Nat):NewI T K (pre++[y]) (insAt kept p (to,y.2)):=by
 refine⟨fun x hx=>?_,by rw[insAt_length,List.length_append];have:=h.len;simp;omega,fun _=>by unfold insAt;simp,fun c l=>?_⟩
 ·rcases mem_insAt.1 hx with rfl | hx
  ·exact⟨hr.lt,h2,h3⟩
  ·exact h.ok x hx
 ·have hh:=h.of c l
  constructor
  ·rintro⟨x,g1,g2,g3⟩
   rcases mem_insAt.1 g1 with rfl | g1
   ·exact⟨y,by simp,g2,(hr.of l).1 g3⟩
   ·obtain⟨z,k1,k2,k3⟩:=hh.1 ⟨x,g1,g2,g3⟩
    exact⟨z,List.mem_append_left _ k1,k2,k3⟩
  ·rintro⟨z,g1,g2,g3⟩
   rcases List.mem_append.1 g1 with g1 | g1
   ·obtain⟨x,k1,k2,k3⟩:=hh.2 ⟨z,g1,g2,g3⟩
    exact⟨x,mem_insAt.2 (.inr k1),k2,k3⟩
   ·rw[List.mem_singleton] at g1;subst g1
    exact⟨(to,z.2),mem_insAt.2 (.inl rfl),g2,(hr.of l).2 g3⟩
theorem mem_set_of {l:List (Nat × Nat)} {p:Nat} {x a z:Nat × Nat} (hx:l[p]?=some x) (hz:z∈l):z=x∨z∈l.set p a:=by
 obtain⟨i,hi,rfl⟩:=List.getElem_of_mem hz;by_cases h:i=p
 ·subst h;rw[List.getElem?_eq_getElem hi] at hx;injection hx with hx;exact .inl hx
 ·right
  have:(l.set p a)[i]?=some l[i]:=by rw[List.getElem?_set_ne (fun e=>h e.symm)];exact List.getElem?_eq_getElem hi
  exact List.mem_of_getElem? this
theorem NewI.met {T K:Turns} {pre kept:List (Nat × Nat)} (h:NewI T K pre kept) {y x:Nat × Nat} {p:Nat} (hr:KRes T K y.1 x.1) (h2:y.2<512) (hx:kept[p]?=some x):NewI T K (pre++[y]) (kept.set p (x.1,x.2 ||| y.2)):=by
 have hp:=(List.getElem?_eq_some_iff.1 hx).1;obtain⟨o1,o2,o3⟩:=h.ok x (List.mem_of_getElem? hx);have hin:(x.1,x.2 ||| y.2)∈kept.set p (x.1,x.2 ||| y.2):=List.mem_of_getElem? (List.getElem?_set_self hp);refine⟨fun z hz=>?_,by rw[List.length_set,List.length_append];have:=h.len;omega,fun _ e=>by have:=congrArg List.length e;rw[List.length_set] at this;simp at this;rw[this] at hp;simp at hp,fun c l=>?_⟩
 ·rcases List.mem_or_eq_of_mem_set hz with hz | rfl
  ·exact h.ok z hz
  ·exact⟨o1,Nat.or_lt_two_pow (n:=9) (by simpa using o2) (by simpa using h2),by rw[Nat.or_comm];exact or_ne o3⟩
 ·have hh:=h.of c l
  constructor
  ·rintro⟨z,g1,g2,g3⟩
   rcases List.mem_or_eq_of_mem_set g1 with g1 | rfl
   ·obtain⟨z',k1,k2,k3⟩:=hh.1 ⟨z,g1,g2,g3⟩
    exact⟨z',List.mem_append_left _ k1,k2,k3⟩
   ·simp only[Nat.testBit_or,Bool.or_eq_true] at g2
    rcases g2 with g2 | g2
    ·obtain⟨z',k1,k2,k3⟩:=hh.1 ⟨x,List.mem_of_getElem? hx,g2,g3⟩
     exact⟨z',List.mem_append_left _ k1,k2,k3⟩
    ·exact⟨y,by simp,g2,(hr.of l).1 g3⟩
  ·rintro⟨z,g1,g2,g3⟩
   rcases List.mem_append.1 g1 with g1 | g1
   ·obtain⟨z',k1,k2,k3⟩:=hh.2 ⟨z,g1,g2,g3⟩
    rcases mem_set_of (a:=(x.1,x.2 ||| y.2)) hx k1 with rfl | k1
    ·exact⟨_,hin,by simp[k2],k3⟩
    ·exact⟨z',k1,k2,k3⟩
   ·rw[List.mem_singleton] at g1;subst g1
    exact⟨_,hin,by simp[g2],(hr.of l).2 g3⟩
section
variable {Z:Nat→Prop} {T K:Turns} {all n:Nat} {to:List Nat} {ws kept:List (Nat × Nat)}
theorem kres_of (hn:NewI T K ws kept) (hw:T[n]?=some ws) (h0:n≠0) {K':Turns} (hK':∀ m,m<K.length→∀ l,InT K' m l ↔ InT K m l) {m:Nat} (hm:K'[m]?=some kept) (hm0:m≠0):KRes T K' n m:=by
 refine⟨(List.getElem?_eq_some_iff.1 hm).1,fun _=>hm0,fun l=>?_⟩;rw[inT_iff hm hm0,inT_iff hw h0]
 constructor
 ·rintro⟨c,l',rfl,y,h1,h2,h3⟩
  exact⟨c,l',rfl,(hn.of c l').1 ⟨y,h1,h2,(hK' _ (hn.ok y h1).1 _).1 h3⟩⟩
 ·rintro⟨c,l',rfl,h1⟩
  obtain⟨y,h1,h2,h3⟩:=(hn.of c l').2 h1;exact⟨c,l',rfl,y,h1,h2,(hK' _ (hn.ok y h1).1 _).2 h3⟩
theorem cnt_set:∀ (to:List Nat) (n m:Nat),to[n]?=some 0→m≠0→((to.set n m).filter (fun x=>decide (x≠0))).length=(to.filter (fun x=>decide (x≠0))).length+1
 | [],n,m,h,_=>by simp at h
 | a::r,0,m,h,hm=>by
   have:a=0:=by simpa using h
   subst this;rw[List.set_cons_zero,List.filter_cons,List.filter_cons,if_pos (by simpa using hm),if_neg (by simp),List.length_cons]
 | a::r,n+1,m,h,hm=>by
   rw[List.set_cons_succ,List.filter_cons,List.filter_cons];have:=cnt_set r n m (by simpa using h) hm;by_cases ha:decide (a≠0)=true
   ·rw[if_pos ha,if_pos ha,List.length_cons,List.length_cons,this]
   ·rw[if_neg ha,if_neg ha,this]
theorem KInv.to_set (h:KInv Z T all to K) (hz:¬ Z n) (h0:to[n]?=some 0) (hn0:n≠0) {K':Turns} (hK':∀ m,m<K.length→m<K'.length∧∀ l,InT K' m l ↔ InT K m l) (hT:TurnsOk K') (hc:K'.length≤K.length+1) (hws:∀ (t:Nat) (ws:List (Nat × Nat)),K'[t]?=some ws→ws.length≤1000000)
  {m:Nat} (hr:KRes T K' n m):KInv Z T all (to.set n m) K':=by
 have hm:=hr.ne hn0;refine⟨by rw[List.length_set];exact h.len,h.z0,fun k hk=>(by rw[List.getElem?_set_ne (fun e=>hz (by rw[e];exact hk))];exact h.zero k hk),hT,?_,hws,fun n' m' h1 h2=>?_⟩
 ·rw[cnt_set to n m h0 hm];have:=h.cnt;omega
 ·rw[List.getElem?_set] at h1
  split at h1
  ·rename_i e;subst e
   split at h1
   ·injection h1 with h1;subst h1;exact⟨hr.lt,hr.of⟩
   ·cases h1
  ·obtain⟨g1,g2⟩:=h.of n' m' h1 h2
   exact⟨(hK' m' g1).1,fun l=>by rw[(hK' m' g1).2 l];exact g2 l⟩
theorem keep_found (h:KInv Z T all to K) (hz:¬ Z n) (hn:NewI T K ws kept) (hw:T[n]?=some ws) (hne:ws≠[]) (hn0:n≠0) (h0:to[n]?=some 0) {m:Nat} (hm:K[m]?=some kept):KInv Z T all (to.set n m) K∧KRes T K n m:=by
 have hm0:m≠0:=by
  rintro rfl;rw[h.turns.zero] at hm;injection hm with hm
  exact hn.ne hne hm.symm
 have hr:=kres_of hn hw hn0 (K':=K) (fun _ _ _=>Iff.rfl) hm hm0;exact⟨h.to_set hz h0 hn0 (fun m hm=>⟨hm,fun _=>Iff.rfl⟩) h.turns (by omega) h.ws hr,hr⟩
theorem keep_push (h:KInv Z T all to K) (hz:¬ Z n) (hn:NewI T K ws kept) (hw:T[n]?=some ws) (hne:ws≠[]) (hn0:n≠0) (h0:to[n]?=some 0) (hl:ws.length≤1000000):KInv Z T all (to.set n K.length) (K++[kept])∧KRes T (K++[kept]) n K.length:=by
 have hp:=(List.getElem?_eq_some_iff.1 h.turns.zero).1
 have hlast:∀ (t:Nat) (ws:List (Nat × Nat)),(K++[kept])[t]?=some ws→K[t]?=some ws∨(t=K.length∧ws=kept):=by
  intro t ws h1;by_cases hlt:t<K.length
  ·rw[List.getElem?_append_left hlt] at h1;exact .inl h1
  ·have h2:=(List.getElem?_eq_some_iff.1 h1).1
   simp only[List.length_append,List.length_singleton] at h2;have h3:t=K.length:=by omega
   subst h3;rw[List.getElem?_append_right (Nat.le_refl _)] at h1;simp at h1;exact .inr ⟨rfl,h1.symm⟩
 have hr:=kres_of hn hw hn0 (K':=K++[kept]) (fun m hm l=>inT_ext h.turns hm) (m:=K.length) (by rw[List.getElem?_append_right (Nat.le_refl _)];simp) (by omega);refine⟨h.to_set hz h0 hn0 (fun m hm=>⟨by rw[List.length_append];omega,fun l=>inT_ext h.turns hm⟩) ⟨?_,?_,?_⟩ (by simp) ?_ hr,hr⟩
 ·rw[List.getElem?_append_left hp];exact h.turns.zero
 ·intro t ws' h1 w hw'
  rcases hlast t ws' h1 with h1 | ⟨rfl,rfl⟩
  ·exact h.turns.cons t ws' h1 w hw'
  ·exact hn.ok w hw'
 ·intro t ws' h1 ht
  rcases hlast t ws' h1 with h1 | ⟨rfl,rfl⟩
  ·exact h.turns.some t ws' h1 ht
  ·exact hn.ne hne
 ·intro t ws' h1
  rcases hlast t ws' h1 with h1 | ⟨rfl,rfl⟩
  ·exact h.ws t ws' h1
  ·have:=hn.len;omega
theorem cnt_lt (h:KInv Z T all to K) (h0:to[n]?=some 0):K.length≤all:=by
 have h1:=cnt_set to n 1 h0 (by decide);have h2:((to.set n 1).filter (fun x=>decide (x≠0))).length≤(to.set n 1).length:=List.length_filter_le ..;rw[List.length_set,h.len] at h2;have:=h.cnt;omega
end
end
theorem escJ_head (c:UInt8):∃ d t,esc sgJ c=d::t∧d≠93∧d≠45∧d≠94:=by
 unfold esc;by_cases hc:c∈sgJ
 ·rw[if_pos hc];exact⟨92,[c],rfl,by decide,by decide,by decide⟩
 ·rw[if_neg hc]
  refine⟨c,[],rfl,?_,?_,?_⟩ <;> (rintro rfl;exact hc (by decide))
theorem itemJ_head (p:Sp):∃ d t,itemJ p=d::t∧d≠93∧d≠45∧d≠94:=by
 obtain⟨d,t,h,h1⟩:=escJ_head p.1;exact⟨d,_,by unfold itemJ;rw[h];rfl,h1⟩
theorem itemJ_text {s r:Bs} {k:Nat} {p:Sp} (h:s.drop k=itemJ p++r) (hp:okS p=true) (hr:r.head?≠some 45):item s k= .ok p (k+(itemJ p).length):=by
 obtain⟨lo,hi⟩:=p;simp only[okS,decide_eq_true_eq] at hp;unfold item;by_cases hlt:(lo.toNat:Int)<(hi.toNat:Int)
 ·have e:itemJ (lo,hi)=esc sgJ lo++45::esc sgJ hi:=by unfold itemJ;rw[if_pos hlt]
  rw[e,List.append_assoc] at h;rw[rb_esc h (by decide) (by decide)];have h2:=drop_past h
  have h3:s.drop (k+(esc sgJ lo).length+1)=esc sgJ hi++r:=by
   have:=drop_past (x:=[45]) h2;exact this
  dsimp only;rw[if_pos (get_drop h2),rb_esc h3 (by decide) (by decide)];dsimp only;rw[if_neg (by omega),e];simp[Nat.add_assoc,Nat.add_comm 1]
 ·have e:itemJ (lo,hi)=esc sgJ lo:=by unfold itemJ;rw[if_neg hlt];simp
  have hx:lo=hi:=u8_eq (by omega);rw[e] at h;rw[rb_esc h (by decide) (by decide)];dsimp only;rw[if_neg (not_get (drop_past h) hr),e,←hx]
theorem goS_textJ:∀ (l:List Sp) {s r:Bs} {k:Nat} {acc:List Sp},s.drop k=l.flatMap itemJ++93::r→(acc≠[]∨l≠[])→l.all okS=true→k≤s.length→
  goS s k acc= .ok (acc++l) (k+(l.flatMap itemJ).length+1)
 | [],s,r,k,acc,h,h0,_,_=>by
   have hc:acc≠[]:=by simpa using h0
   rw[goS_end hc (get_drop h)];simp
 | p::l,s,r,k,acc,h,_,hl,hk=>by
   rw[List.all_cons,Bool.and_eq_true] at hl;obtain⟨hp,hl⟩:=hl;rw[List.flatMap_cons,List.append_assoc] at h;obtain⟨d,t,hd,d1,d2,_⟩:=itemJ_head p
   have h1:¬ (acc≠[]∧s[k]?=some 93):=by
    rintro⟨_,h93⟩;rw[hd] at h;have:=get_drop h;rw[h93] at this;injection this with this
    exact d1 this.symm
   have hr:(l.flatMap itemJ++93::r).head?≠some 45:=by
    cases l with
    | nil=>simp
    | cons q l=>
      obtain⟨d',t',hd',_,d2',_⟩:=itemJ_head q;rw[List.flatMap_cons,hd'];simpa using d2'
   have hi:=itemJ_text h hp hr;obtain⟨_,hb⟩:=item_ok hk hi;rw[goS_ok h1 hk hi,goS_textJ l (drop_past h) (.inl (by simp)) hl hb];simp[Nat.add_assoc]
theorem drop_le {s r:Bs} {k:Nat} {c:UInt8} (h:s.drop k=c::r):k<s.length:=lt_of_get (get_drop h)
theorem all_none:compl (allS [((0:UInt8),(255:UInt8))])=none4:=set_ext fun c hc=>by
 rw[mem_compl,mem_allS _ _ hc,mem_none4];have:hasS c ((0:UInt8),(255:UInt8))=true:=by unfold hasS;simp;omega
 simp[this]
theorem all_full:allS [((0:UInt8),(255:UInt8))]=compl none4:=set_ext fun c hc=>by
 rw[mem_compl,mem_allS _ _ hc,mem_none4];have:hasS c ((0:UInt8),(255:UInt8))=true:=by unfold hasS;simp;omega
 simp[this]
theorem all_one (c:UInt8):allS [(c,c)]=ins none4 c.toNat:=by
 show addS none4 (c,c)=_;unfold addS;dsimp only;rw[show c.toNat+1 - c.toNat=1 by omega]
 rfl
theorem atom_esc {grp:Rd} {s r:Bs} {k:Nat} (g:Nat) {c:UInt8} (h:s.drop k=esc sgA c++r):atomR grp s k g= .ok (rSet (ins none4 c.toNat)) (k+(esc sgA c).length) g:=by
 have hne:∀ d:UInt8,d∈([94,36,46,40,91]:Bs)→s[k]?≠some d:=by
  intro d hd;refine not_get h ?_;unfold esc
  split
  ·rintro e
   injection e with e
   subst e
   revert hd;decide
  ·rename_i hn
   rintro e;injection e with e
   subst e;exact hn (by revert hd;simp[sgA];rintro(rfl | rfl | rfl | rfl | rfl) <;> simp)
 unfold atomR;rw[if_neg (hne 94 (by decide)),if_neg (hne 36 (by decide)),if_neg (hne 46 (by decide)),if_neg (hne 40 (by decide)),if_neg (hne 91 (by decide)),rb_esc h (by decide) (fun x hx=>hx)]
theorem atom_class {grp:Rd} {s:Bs} {k q:Nat} (g:Nat) {S:S4} (h:s[k]?=some 91) (hc:cls s (k+1)= .ok S q):atomR grp s k g= .ok (rSet S) q g:=by
 unfold atomR;rw[h,hc]
 rfl
theorem cls_text {s r:Bs} {k:Nat} {l:List Sp} (h:s.drop k=l.flatMap itemJ++93::r) (hl:l≠[]) (ho:l.all okS=true):cls s k= .ok (allS l) (k+(l.flatMap itemJ).length+1):=by
 have hlt:k<s.length:=by
  have:=congrArg List.length h;simp only[List.length_drop,List.length_append,List.length_cons] at this;omega
 have h94:s[k]?≠some 94:=by
  refine not_get h ?_;obtain⟨p,l',rfl⟩:=List.exists_cons_of_ne_nil hl;obtain⟨d,t,hd,_,_,d3⟩:=itemJ_head p;rw[List.flatMap_cons,hd];simpa using d3
 unfold cls;rw[if_neg h94,goS_textJ l h (.inr hl) ho (by omega)]
 rfl
theorem set_text {grp:Rd} {s r:Bs} {k:Nat} (g:Nat) {S:S4} (h:s.drop k=setText S++r):atomR grp s k g= .ok (rSet S) (k+(setText S).length) g:=by
 have hS:=allS_runs S;by_cases h0:runs S=[]
 ·rw[setText_nil h0] at h ⊢
  rw[h0] at hS;have h1:=get_drop h
  have h2:s.drop (k+1)=94::(([((0:UInt8),(255:UInt8))]:List Sp).flatMap itemJ++93::r):=by
   have:=drop_past (x:=[91]) (r:=[94,0,45,255,93]++r) (s:=s) (k:=k) (by rw[h];rfl);rw[show k+1=k+([91]:Bs).length from rfl,this]
   rfl
  have h3:s.drop (k+1+1)=([((0:UInt8),(255:UInt8))]:List Sp).flatMap itemJ++93::r:=drop_past (x:=[94]) h2;refine atom_class g h1 ?_;unfold cls;have:=drop_le h2;rw[if_pos (get_drop h2),goS_textJ _ h3 (.inr (by simp)) (by decide) (by omega)];dsimp only;rw[List.nil_append,all_none,←hS]
  rfl
 ·by_cases h1:∃ c,runs S=[(c,c)]
  ·obtain⟨c,hc⟩:=h1
   rw[setText_one hc] at h ⊢;rw[atom_esc g h,←hS,hc,all_one]
  ·by_cases h2:runs S=[(0,255)]
   ·rw[setText_full h2] at h ⊢
    rw[h2,all_full] at hS;have h3:=get_drop h;unfold atomR;rw[h3,hS]
    rfl
   ·rw[setText_many h0 (fun c hc=>h1 ⟨c,hc⟩) h2] at h ⊢
    have h3:s.drop (k+1)=(runs S).flatMap itemJ++93::r:=by
     have:=drop_past (x:=[91]) (r:=(runs S).flatMap itemJ++93::r) (s:=s) (k:=k) (by rw[h];simp);exact this
    have hc:=cls_text h3 h0 (runs_ok S 256 (by omega));rw[hS] at hc;rw[atom_class g (get_drop h) hc];simp;omega
theorem dig_nat {x:Int} (h0:0≤x) (h8:x≤8):((dig x).toNat:Int) - 48=x:=by
 unfold dig;rw[UInt8.toNat_ofNat',Nat.mod_eq_of_lt (by omega)];omega
theorem numb_dig {s:Bs} {k:Nat} {least x:Int} (h:s[k]?=some (dig x)) (h0:0≤x) (h8:x≤8) (hl:least≤x):numb s k least=some x:=by
 unfold numb;rw[h];dsimp only;rw[dig_nat h0 h8,if_neg (by omega)]
theorem get_off {s:Bs} {k j:Nat} {l:Bs} (h:s.drop k=l):s[k+j]?=l[j]?:=by
 rw[←h,List.getElem?_drop]
theorem bound_is {lo hi:Int} (h:bound lo hi=true):0≤lo∧lo≤8∧(hi= -1∨lo≤hi∧hi≤8):=by
 unfold bound at h;simpa using h
theorem dig_ne {x:Int} (h0:0≤x) (h8:x≤8) (c:UInt8) (hc:c.toNat<48∨56<c.toNat):dig x≠c:=by
 rintro rfl;have:=dig_nat h0 h8;omega
theorem tail_text {s r:Bs} {q:Nat} {lo hi:Int} (x:Re) (g:Nat) (h:s.drop q=signT lo hi++r) (hb:bound lo hi=true):tailP s x q g= .ok (rRep x lo hi) (q+(signT lo hi).length) g:=by
 obtain⟨b1,b2,b3⟩:=bound_is hb;unfold signT at h ⊢
 split at h
 ·rename_i e
  obtain⟨rfl,rfl⟩:=e;have:=get_drop h;unfold tailP;rw[this];rfl
 ·rename_i n1
  split at h
  ·rename_i e
   obtain⟨rfl,rfl⟩:=e;have:=get_drop h;unfold tailP;rw[this];rfl
  ·rename_i n2
   split at h
   ·rename_i e
    obtain⟨rfl,rfl⟩:=e;have:=get_drop h;unfold tailP;rw[this];rfl
   ·rename_i n3
    rw[if_neg n1,if_neg n2,if_neg n3]
    have key:∀ (t:Bs) (p:Nat),s[q]?=some 123→bnds s (q+1)= .ok (lo,hi) p→p=q+t.length→tailP s x q g= .ok (rRep x lo hi) (q+t.length) g:=by
     intro t p h1 h2 h3;unfold tailP;rw[h1,h2,h3];rfl
    split at h
    ·rename_i e
     subst e;rw[if_pos rfl];have e0:=get_off (j:=0) h;have e1:=get_off (j:=1) h;have e2:=get_off (j:=2) h;refine key _ (q+3) (by simpa using e0) ?_ (by simp);unfold bnds;rw[numb_dig (x:=hi) (by simpa using e1) b1 b2 b1];dsimp only;rw[if_neg (by rw[show q+1+1=q+2 by omega,e2];simp)];unfold closeB;rw[if_pos (by rw[show q+1+1=q+2 by omega,e2];simp)]
    ·rename_i n4
     rw[if_neg n4]
     split at h
     ·rename_i e
      subst e;rw[if_pos rfl];have e0:=get_off (j:=0) h;have e1:=get_off (j:=1) h;have e2:=get_off (j:=2) h;have e3:=get_off (j:=3) h;refine key _ (q+4) (by simpa using e0) ?_ (by simp);unfold bnds;rw[numb_dig (x:=lo) (by simpa using e1) b1 b2 b1];dsimp only;rw[if_pos (by rw[show q+1+1=q+2 by omega,e2];simp),if_pos (by rw[show q+1+2=q+3 by omega,e3];simp)]
     ·rename_i n5
      rw[if_neg n5];have b4:lo≤hi∧hi≤8:=by omega
      have e0:=get_off (j:=0) h;have e1:=get_off (j:=1) h;have e2:=get_off (j:=2) h;have e3:=get_off (j:=3) h;have e4:=get_off (j:=4) h;have d3:=dig_ne (x:=hi) (by omega) b4.2 125 (by decide);refine key _ (q+5) (by simpa using e0) ?_ (by simp);unfold bnds;rw[numb_dig (x:=lo) (by simpa using e1) b1 b2 b1];dsimp only;rw[if_pos (by rw[show q+1+1=q+2 by omega,e2];simp),if_neg (by rw[show q+1+2=q+3 by omega,e3];simpa using d3),numb_dig (x:=hi) (by rw[show q+1+2=q+3 by omega];simpa using e3) (by omega) b4.2 b4.1];dsimp only;unfold closeB;rw[if_pos (by rw[show q+1+3=q+4 by omega,e4];simp)]
theorem told_is {k:Int} {S:S4} {ks:List Re} {lo hi n:Int} (h:told (.mk k S ks lo hi n)=true):
  (k=1∨S=none4)∧(k=7∨n=0)∧(k=6→(∃ x,ks=[x]∧rep x=true)∧bound lo hi=true)∧(k≠6→lo=0∧hi=0)∧(k=7→∃ x,ks=[x])∧(k=4∨k=5→2≤ks.length)∧(k≠4→k≠5→k≠6→k≠7→ks=[]):=by
 unfold told at h;simp only[Bool.and_eq_true,Bool.or_eq_true,decide_eq_true_eq] at h;obtain⟨h1,h2,h3⟩:=h;refine⟨h1,h2,?_,?_,?_,?_,?_⟩
 ·rintro rfl
  rw[if_pos rfl] at h3;simp only[Bool.and_eq_true] at h3;obtain⟨h3,h4⟩:=h3;refine⟨?_,h4⟩
  split at h3
  ·exact⟨_,rfl,h3⟩
  ·cases h3
 ·intro hk
  rw[if_neg hk] at h3;simp only[Bool.and_eq_true,decide_eq_true_eq] at h3;exact⟨h3.1,h3.2.1⟩
 ·rintro rfl
  rw[if_neg (by decide),if_pos rfl] at h3;simp only[Bool.and_eq_true,decide_eq_true_eq] at h3;exact List.length_eq_one_iff.1 h3.2.2
 ·intro hk
  rw[if_neg (by omega),if_neg (by omega),if_pos hk] at h3;simp only[Bool.and_eq_true,decide_eq_true_eq] at h3;exact h3.2.2
 ·intro h4 h5 h6 h7
  rw[if_neg h6,if_neg h7,if_neg (by omega)] at h3;simp only[Bool.and_eq_true,decide_eq_true_eq] at h3;exact List.length_eq_zero_iff.1 h3.2.2
theorem form_is {k:Int} {S:S4} {ks:List Re} {lo hi n:Int} {lv d g g':Nat} (h:form (.mk k S ks lo hi n) lv d g=some g'):
  lev k≤lv∧told (.mk k S ks lo hi n)=true∧(k=7→n=num (g+1)∧d<64∧formL ks 3 (d+1) (g+1)=some g')∧(k≠7→formL ks (levK k) d g=some g'):=by
 rw[form] at h
 split at h
 ·rename_i hh
  refine⟨hh.1,hh.2,?_,?_⟩
  ·rintro rfl
   rw[if_pos rfl] at h
   split at h
   ·rename_i h2;exact⟨h2.1,h2.2,h⟩
   ·cases h
  ·intro hk
   rw[if_neg hk] at h;exact h
 ·cases h
theorem form_lv {r:Re} {lv lv' d g g':Nat} (h:form r lv d g=some g') (hl:lev r.kind≤lv'):form r lv' d g=some g':=by
 obtain⟨k,S,ks,lo,hi,n⟩:=r;obtain⟨_,h2,_,_⟩:=form_is h;rw[form] at h ⊢;rw[if_pos ⟨hl,h2⟩]
 split at h
 ·exact h
 ·cases h
theorem lev0 {k:Int} (h:lev k≤0):k=1∨k=2∨k=3∨k=7:=by
 unfold lev at h
 split at h
 ·assumption
 ·split at h
  ·omega
  ·split at h
   ·omega
   ·split at h <;> omega
theorem lev1 {k:Int} (h:lev k≤1):lev k≤0∨k=6:=by
 unfold lev at h ⊢
 split at h
 ·left;rw[if_pos (by assumption)];exact Nat.le_refl _
 ·split at h
  ·right;assumption
  ·split at h
   ·omega
   ·split at h <;> omega
theorem lev2 {k:Int} (h:lev k≤2):lev k≤1∨k=0∨k=4:=by
 unfold lev at h ⊢
 split at h
 ·left;rw[if_pos (by assumption)];omega
 ·rename_i h0
  split at h
  ·left;rw[if_neg h0,if_pos (by assumption)];exact Nat.le_refl _
  ·split at h
   ·right;assumption
   ·split at h <;> omega
theorem lev3 {k:Int} (h:lev k≤3):lev k≤2∨k=5:=by
 unfold lev at h ⊢
 split at h
 ·left;rw[if_pos (by assumption)];omega
 ·rename_i h0
  split at h
  ·left;rw[if_neg h0,if_pos (by assumption)];omega
  ·rename_i h1
   split at h
   ·left;rw[if_neg h0,if_neg h1,if_pos (by assumption)];omega
   ·split at h
    ·right;assumption
    ·omega
def Headed (t:Bs):Prop:=∃ c u,t=c::u∧c ∉ sgR∧c≠124∧c≠41
theorem head_esc (c:UInt8):Headed (esc sgA c):=by
 unfold esc;by_cases hc:c∈sgA
 ·rw[if_pos hc];exact⟨92,[c],rfl,by decide,by decide,by decide⟩
 ·rw[if_neg hc]
  refine⟨c,[],rfl,fun h=>hc ?_,?_,?_⟩
  ·revert h;simp[sgR,sgA];rintro(rfl | rfl | rfl | rfl) <;> simp
  ·rintro rfl;exact hc (by decide)
  ·rintro rfl;exact hc (by decide)
theorem head_set (S:S4):Headed (setText S):=by
 unfold setText
 split
 ·exact⟨91,_,rfl,by decide,by decide,by decide⟩
 ·split
  ·exact head_esc _
  ·split
   ·exact⟨46,_,rfl,by decide,by decide,by decide⟩
   ·exact⟨91,_,rfl,by decide,by decide,by decide⟩
theorem Headed.app {t:Bs} (h:Headed t) (u:Bs):Headed (t++u):=by
 obtain⟨c,v,rfl,h1⟩:=h;exact⟨c,v++u,rfl,h1⟩
theorem head_atom {r:Re} {d g g':Nat} (h:form r 0 d g=some g'):Headed (textE r):=by
 obtain⟨k,S,ks,lo,hi,n⟩:=r;obtain⟨h1,_⟩:=form_is h;rw[textE]
 rcases lev0 h1 with rfl | rfl | rfl | rfl
 ·exact head_set S
 ·exact⟨94,_,rfl,by decide,by decide,by decide⟩
 ·exact⟨36,_,rfl,by decide,by decide,by decide⟩
 ·exact⟨40,_,rfl,by decide,by decide,by decide⟩
theorem formL_one {x:Re} {lv d g:Nat}:formL [x] lv d g=form x lv d g:=by
 rw[formL]
 cases form x lv d g with
 | none=>rfl
 | some g'=>rfl
theorem join_one (sep:Bs) (x:Re):joinT sep [x]=textE x:=by rw[joinT,tailT,List.append_nil]
theorem head_piece {r:Re} {d g g':Nat} (h:form r 1 d g=some g'):Headed (textE r):=by
 obtain⟨k,S,ks,lo,hi,n⟩:=r;obtain⟨h1,h2,_,h4⟩:=form_is h
 rcases lev1 h1 with h0 | rfl
 ·exact head_atom (form_lv h h0)
 ·obtain⟨⟨x,rfl,_⟩,_⟩:=(told_is h2).2.2.1 rfl
  have h4:=h4 (by decide);rw[formL_one] at h4;rw[textE,if_neg (by decide),if_neg (by decide),if_neg (by decide),if_neg (by decide),if_pos rfl,join_one];exact(head_atom h4).app _
abbrev grpC (s:Bs) (m:Nat):Rd:=grpM (fun grp=>pieceC grp s) s m
def Tr0 (r:Re):Prop:=∀ (s:Bs) (m d k g g':Nat) (rest:Bs),m+d=64→s.drop k=textE r++rest→form r 0 d g=some g'→atomR (grpC s m) s k g= .ok r (k+(textE r).length) g'
def Tr1 (r:Re):Prop:=∀ (s:Bs) (m d k g g':Nat) (rest:Bs),m+d=64→s.drop k=textE r++rest→form r 1 d g=some g'→(∀ c,rest.head?=some c→c ∉ sgR)→pieceC (grpC s m) s k g= .ok r (k+(textE r).length) g'
def Tr2 (r:Re):Prop:=∀ (s:Bs) (m d k g g':Nat) (rest:Bs),m+d=64→s.drop k=textE r++rest→k≤s.length→form r 2 d g=some g'→(∀ c,rest.head?=some c→c=124∨c=41)→rowOf (pieceC (grpC s m) s) s k g= .ok r (k+(textE r).length) g'
def Tr3 (r:Re):Prop:=∀ (s:Bs) (m d k g g':Nat) (rest:Bs),m+d=64→s.drop k=textE r++rest→k≤s.length→form r 3 d g=some g'→(∀ c,rest.head?=some c→c=41)→exC s m k g= .ok r (k+(textE r).length) g'
theorem get_head {s r:Bs} {k:Nat} (h:s.drop k=r):s[k]?=r.head?:=by
 cases r with
 | nil=>exact get_none h
 | cons c r=>exact get_drop h
theorem at1_of0 {r:Re} (h0:Tr0 r) (hl:lev r.kind≤0):Tr1 r:=by
 intro s m d k g g' rest hm hd hf hr;have ha:=h0 s m d k g g' rest hm hd (form_lv hf hl);have hq:=get_head (drop_past hd)
 have hne:∀ c∈sgR,s[k+(textE r).length]?≠some c:=by
  intro c hc e;rw[hq] at e;exact hr c e hc
 unfold pieceC;rw[ha];dsimp only
 split
 ·unfold tailP
  rw[if_neg (hne 42 (by decide)),if_neg (hne 43 (by decide)),if_neg (hne 63 (by decide)),if_neg (hne 123 (by decide))]
 ·rfl
theorem at1_six {S:S4} {x:Re} {lo hi n:Int} (h0:Tr0 x):Tr1 (.mk 6 S [x] lo hi n):=by
 intro s m d k g g' rest hm hd hf hr;obtain⟨h1,h2,_,h4⟩:=form_is hf;obtain⟨t1,t2,t3,_⟩:=told_is h2;obtain⟨⟨y,hy,hrep⟩,hb⟩:=t3 rfl;injection hy with hy _
 subst hy;have h4:=h4 (by decide);rw[formL_one] at h4
 have hS:S=none4:=by rcases t1 with t1 | t1;·exact absurd t1 (by decide)
                     ·exact t1
 have hn:n=0:=by rcases t2 with t2 | t2;·exact absurd t2 (by decide)
                 ·exact t2
 subst hS hn;rw[textE,if_neg (by decide),if_neg (by decide),if_neg (by decide),if_neg (by decide),if_pos rfl,join_one] at hd ⊢;rw[List.append_assoc] at hd;have ha:=h0 s m d k g g' _ hm hd h4;unfold pieceC;rw[ha];dsimp only;rw[if_pos hrep,tail_text x g' (drop_past hd) hb,List.length_append,Nat.add_assoc]
 rfl
theorem stops_head {s r:Bs} {k:Nat} (h:s.drop k=r):stops s k=match r.head? with
  | none=>true
  | some c=>decide (c=124) || decide (c=41):=by
 have e:=get_head h;unfold stops
 cases hr:r.head? with
 | none=>rw[hr] at e;rw[e]
 | some c=>rw[hr] at e;rw[e]
theorem stops_yes {s r:Bs} {k:Nat} (h:s.drop k=r) (hr:∀ c,r.head?=some c→c=124∨c=41):stops s k=true:=by
 rw[stops_head h]
 cases hh:r.head? with
 | none=>rfl
 | some c=>rcases hr c hh with rfl | rfl <;> rfl
theorem stops_no {s t:Bs} {k:Nat} {r:Bs} (ht:Headed t) (h:s.drop k=t++r):stops s k=false:=by
 obtain⟨c,u,rfl,_,h2,h3⟩:=ht;rw[stops_head h];simp[h2,h3]
theorem tail_nil:∀ l:List Re,tailT [] l=joinT [] l
 | []=>rfl
 | x::l=>by rw[tailT,joinT];rfl
theorem rowL_text {s:Bs} {m d:Nat} (hm:m+d=64) {rest:Bs} (hr:∀ c,rest.head?=some c→c=124∨c=41):∀ (l:List Re) (k g g':Nat) (acc:List Re),(∀ x∈l,Tr1 x)→s.drop k=joinT [] l++rest→k≤s.length→formL l 1 d g=some g'→
  rowL (pieceC (grpC s m) s) s k g acc= .ok (acc++l) (k+(joinT [] l).length) g'
 | [],k,g,g',acc,_,hd,hk,hf=>by
   rw[formL] at hf;injection hf with hf
   subst hf;rw[rowL_end (stops_yes hd hr)];simp[joinT]
 | x::l,k,g,g',acc,hl,hd,hk,hf=>by
   rw[formL] at hf
   cases hx:form x 1 d g with
   | none=>rw[hx] at hf;cases hf
   | some g1=>
     rw[hx] at hf;dsimp only at hf;rw[joinT,tail_nil,List.append_assoc] at hd;rw[joinT,tail_nil];have hh:=head_piece hx
     have hp:=hl x (by simp) s m d k g g1 _ hm hd hx (by
      intro c hc
      cases l with
      | nil=>
        rcases hr c hc with rfl | rfl <;> decide
      | cons y l=>
        rw[formL] at hf
        cases hy:form y 1 d g1 with
        | none=>rw[hy] at hf;cases hf
        | some g2=>
          obtain⟨c',u,e,h1,_⟩:=head_piece hy;rw[joinT,e] at hc;injection hc with hc
          subst hc;exact h1)
     have hd2:=drop_past hd
     have hle:k+(textE x).length≤s.length:=by
      have:=congrArg List.length hd;simp only[List.length_drop,List.length_append] at this;omega
     have hpos:0<(textE x).length:=by obtain⟨c,u,e,_⟩:=hh;rw[e];simp
     rw[rowL_ok (stops_no hh hd) hp ⟨by omega,hle⟩,rowL_text hm hr l _ _ g' _ (fun y hy=>hl y (by simp[hy])) hd2 hle hf];simp[Nat.add_assoc]
theorem at2_of1 {r:Re} (h1:Tr1 r) (hl:lev r.kind≤1):Tr2 r:=by
 intro s m d k g g' rest hm hd hk hf hr;have e:textE r=joinT [] [r]:=(join_one [] r).symm;have:=rowL_text (s:=s) hm hr [r] k g g' [] (by simpa using h1) (by rw[←e];exact hd) hk (by rw[formL_one];exact form_lv hf hl);unfold rowOf;rw[this,←e]
 rfl
theorem at2_zero {S:S4} {ks:List Re} {lo hi n:Int}:Tr2 (.mk 0 S ks lo hi n):=by
 intro s m d k g g' rest hm hd hk hf hr;obtain⟨_,h2,_,h4⟩:=form_is hf;obtain⟨t1,t2,_,t4,_,_,t7⟩:=told_is h2;obtain rfl:=t7 (by decide) (by decide) (by decide) (by decide)
 have hS:S=none4:=by rcases t1 with t1 | t1;·exact absurd t1 (by decide)
                     ·exact t1
 have hn:n=0:=by rcases t2 with t2 | t2;·exact absurd t2 (by decide)
                 ·exact t2
 obtain⟨rfl,rfl⟩:=t4 (by decide);subst hS hn;have h4:=h4 (by decide);rw[formL] at h4;injection h4 with h4
 subst h4;have e:textE (.mk 0 none4 [] 0 0 0)=[]:=by simp[textE,joinT]
 rw[e] at hd ⊢;unfold rowOf;rw[rowL_end (stops_yes hd hr)]
 rfl
theorem at2_four {S:S4} {ks:List Re} {lo hi n:Int} (h1:∀ x∈ks,Tr1 x):Tr2 (.mk 4 S ks lo hi n):=by
 intro s m d k g g' rest hm hd hk hf hr;obtain⟨_,h2,_,h4⟩:=form_is hf;obtain⟨t1,t2,_,t4,_,t6,_⟩:=told_is h2
 have hS:S=none4:=by rcases t1 with t1 | t1;·exact absurd t1 (by decide)
                     ·exact t1
 have hn:n=0:=by rcases t2 with t2 | t2;·exact absurd t2 (by decide)
                 ·exact t2
 obtain⟨rfl,rfl⟩:=t4 (by decide);have t6:=t6 (.inl rfl);subst hS hn;have h4:=h4 (by decide);have e:textE (.mk 4 none4 ks 0 0 0)=joinT [] ks:=by simp[textE]
 rw[e] at hd ⊢;have:=rowL_text (s:=s) hm hr ks k g g' [] h1 hd hk h4;unfold rowOf;rw[this];dsimp only;rw[List.nil_append]
 match ks,t6 with
 | a::b::l,_=>rfl
theorem altL_text {s:Bs} {m d:Nat} (hm:m+d=64) {rest:Bs} (hr:∀ c,rest.head?=some c→c=41):∀ (l:List Re) (x:Re) (k g g':Nat) (acc:List Re),(∀ y∈x::l,Tr2 y)→s.drop k=joinT [124] (x::l)++rest→k≤s.length→formL (x::l) 2 d g=some g'→
  altL (rowOf (pieceC (grpC s m) s) s) s k g acc= .ok (acc++x::l) (k+(joinT [124] (x::l)).length) g'
 | [],x,k,g,g',acc,hl,hd,hk,hf=>by
   rw[formL_one] at hf;rw[join_one] at hd ⊢;have hx:=hl x (by simp) s m d k g g' rest hm hd hk hf (fun c hc=> .inr (hr c hc));have hq:=get_head (drop_past hd);rw[altL_end hx (by rw[hq];intro e;have:=hr _ e;revert this;decide)]
 | y::l,x,k,g,g',acc,hl,hd,hk,hf=>by
   rw[formL] at hf
   cases hx:form x 2 d g with
   | none=>rw[hx] at hf;cases hf
   | some g1=>
     rw[hx] at hf;dsimp only at hf;rw[joinT,tailT,List.append_assoc] at hd;rw[joinT,tailT];have hxr:=hl x (by simp) s m d k g g1 _ hm hd hk hx (fun c hc=>by injection hc with hc;exact .inl hc.symm);have hd2:=drop_past hd;have hq:s[k+(textE x).length]?=some 124:=get_head hd2;have hlt:=lt_of_get hq
     have hd3:s.drop (k+(textE x).length+1)=joinT [124] (y::l)++rest:=by
      have:=drop_past (x:=[124]) (r:=joinT [124] (y::l)++rest) (by rw[hd2];rfl);exact this
     rw[altL_ok hxr hq (by omega),altL_text hm hr l y _ _ g' _ (fun z hz=>hl z (by simp at hz ⊢;right;exact hz)) hd3 (by omega) hf];rw[joinT];simp[Nat.add_assoc,Nat.add_comm 1]
theorem at3_of2 {r:Re} (h2:Tr2 r) (hl:lev r.kind≤2):Tr3 r:=by
 intro s m d k g g' rest hm hd hk hf hr;have e:textE r=joinT [124] [r]:=(join_one _ r).symm;have:=altL_text (s:=s) hm hr [] r k g g' [] (by simpa using h2) (by rw[←e];exact hd) hk (by rw[formL_one];exact form_lv hf hl);show altOf _ s k g=_;unfold altOf;rw[this,←e]
 rfl
theorem at3_five {S:S4} {ks:List Re} {lo hi n:Int} (h1:∀ x∈ks,Tr2 x):Tr3 (.mk 5 S ks lo hi n):=by
 intro s m d k g g' rest hm hd hk hf hr;obtain⟨_,h2,_,h4⟩:=form_is hf;obtain⟨t1,t2,_,t4,_,t6,_⟩:=told_is h2
 have hS:S=none4:=by rcases t1 with t1 | t1;·exact absurd t1 (by decide)
                     ·exact t1
 have hn:n=0:=by rcases t2 with t2 | t2;·exact absurd t2 (by decide)
                 ·exact t2
 obtain⟨rfl,rfl⟩:=t4 (by decide);have t6:=t6 (.inr rfl);subst hS hn;have h4:=h4 (by decide);have e:textE (.mk 5 none4 ks 0 0 0)=joinT [124] ks:=by simp[textE]
 rw[e] at hd ⊢
 match ks,t6 with
 | a::b::l,_=>
   have:=altL_text (s:=s) hm hr (b::l) a k g g' [] h1 hd hk h4;show altOf _ s k g=_;unfold altOf;rw[this]
   rfl
theorem at0_seven {S:S4} {x:Re} {lo hi n:Int} (h3:Tr3 x):Tr0 (.mk 7 S [x] lo hi n):=by
 intro s m d k g g' rest hm hd hf;obtain⟨_,h2,h3',_⟩:=form_is hf;obtain⟨hn,hd64,hfl⟩:=h3' rfl;obtain⟨t1,_,_,t4,_,_,_⟩:=told_is h2
 have hS:S=none4:=by rcases t1 with t1 | t1;·exact absurd t1 (by decide)
                     ·exact t1
 obtain⟨rfl,rfl⟩:=t4 (by decide);subst hS hn;rw[formL_one] at hfl;have e:textE (.mk 7 none4 [x] 0 0 (num (g+1)))=40::(textE x++[41]):=by simp[textE,joinT,tailT]
 rw[e] at hd ⊢;obtain⟨m,rfl⟩:∃ m',m=m'+1:=⟨m - 1,by omega⟩;have h40:=get_drop hd;have hlt:=lt_of_get h40
 have hd2:s.drop (k+1)=textE x++(41::rest):=by
  have:=drop_past (x:=[40]) (r:=textE x++(41::rest)) (s:=s) (k:=k) (by rw[hd];simp);exact this
 have hx:=h3 s m (d+1) (k+1) (g+1) g' _ (by omega) hd2 (by omega) hfl (fun c hc=>by injection hc with hc;exact hc.symm);have hq:s[k+1+(textE x).length]?=some 41:=get_head (drop_past hd2);unfold atomR;rw[h40];show grpC s (m+1) k g=_;show grpM _ s (m+1) k g=_;rw[grpM_succ];unfold grpR;rw[show exM (fun grp=>pieceC grp s) s m (k+1) (g+1)=_ from hx];dsimp only;rw[if_pos hq];simp[rGrp];omega
theorem at_all (r:Re):Tr0 r∧Tr1 r∧Tr2 r∧Tr3 r:=by
 refine Re.ind (P:=fun r=>Tr0 r∧Tr1 r∧Tr2 r∧Tr3 r) ?_ r;intro k S ks lo hi n ih
 have a0:Tr0 (.mk k S ks lo hi n):=by
  intro s m d kk g g' rest hm hd hf;obtain⟨h1,h2,_,h4⟩:=form_is hf;obtain⟨t1,t2,_,t4,t5,_,t7⟩:=told_is h2
  rcases lev0 h1 with rfl | rfl | rfl | rfl
  ·obtain rfl:=t7 (by decide) (by decide) (by decide) (by decide)
   have hn:n=0:=by rcases t2 with t2 | t2;·exact absurd t2 (by decide)
                   ·exact t2
   obtain⟨rfl,rfl⟩:=t4 (by decide);subst hn;have h4:=h4 (by decide);rw[formL] at h4;injection h4 with h4
   subst h4;have e:textE (.mk 1 S [] 0 0 0)=setText S:=by simp[textE]
   rw[e] at hd ⊢;exact set_text g hd
  ·obtain rfl:=t7 (by decide) (by decide) (by decide) (by decide)
   have hS:S=none4:=by rcases t1 with t1 | t1;·exact absurd t1 (by decide)
                       ·exact t1
   have hn:n=0:=by rcases t2 with t2 | t2;·exact absurd t2 (by decide)
                   ·exact t2
   obtain⟨rfl,rfl⟩:=t4 (by decide);subst hS hn;have h4:=h4 (by decide);rw[formL] at h4;injection h4 with h4
   subst h4;have e:textE (.mk 2 none4 [] 0 0 0)=[94]:=by simp[textE]
   rw[e] at hd ⊢;unfold atomR;rw[get_drop hd];rfl
  ·obtain rfl:=t7 (by decide) (by decide) (by decide) (by decide)
   have hS:S=none4:=by rcases t1 with t1 | t1;·exact absurd t1 (by decide)
                       ·exact t1
   have hn:n=0:=by rcases t2 with t2 | t2;·exact absurd t2 (by decide)
                   ·exact t2
   obtain⟨rfl,rfl⟩:=t4 (by decide);subst hS hn;have h4:=h4 (by decide);rw[formL] at h4;injection h4 with h4
   subst h4;have e:textE (.mk 3 none4 [] 0 0 0)=[36]:=by simp[textE]
   rw[e] at hd ⊢;unfold atomR;rw[get_drop hd];rfl
  ·obtain⟨x,rfl⟩:=t5 rfl
   exact at0_seven (ih x (by simp)).2.2.2 s m d kk g g' rest hm hd hf
 have a1:Tr1 (.mk k S ks lo hi n):=by
  intro s m d kk g g' rest hm hd hf;obtain⟨h1,h2,_⟩:=form_is hf
  rcases lev1 h1 with h0 | rfl
  ·exact at1_of0 a0 h0 s m d kk g g' rest hm hd hf
  ·obtain⟨⟨x,rfl,_⟩,_⟩:=(told_is h2).2.2.1 rfl
   exact at1_six (ih x (by simp)).1 s m d kk g g' rest hm hd hf
 have a2:Tr2 (.mk k S ks lo hi n):=by
  intro s m d kk g g' rest hm hd hk hf;obtain⟨h1,h2,_⟩:=form_is hf
  rcases lev2 h1 with h0 | rfl | rfl
  ·exact at2_of1 a1 h0 s m d kk g g' rest hm hd hk hf
  ·exact at2_zero s m d kk g g' rest hm hd hk hf
  ·exact at2_four (fun x hx=>(ih x hx).2.1) s m d kk g g' rest hm hd hk hf
 refine⟨a0,a1,a2,?_⟩;intro s m d kk g g' rest hm hd hk hf;obtain⟨h1,h2,_⟩:=form_is hf
 rcases lev3 h1 with h0 | rfl
 ·exact at3_of2 a2 h0 s m d kk g g' rest hm hd hk hf
 ·exact at3_five (fun x hx=>(ih x hx).2.2.1) s m d kk g g' rest hm hd hk hf
theorem parse_text_form {r:Re} {g:Nat} (h:form r 3 0 0=some g) (hl:(textE r).length≤200):parseE (textE r)=(some r,0,0):=by
 have:=(at_all r).2.2.2 (textE r) 64 0 0 0 g [] (by omega) (by simp) (by omega) h (fun c hc=>by cases hc);unfold parseE;rw[if_neg (by omega),this];dsimp only;rw[if_neg (by omega)]
theorem formL_snoc {lv d:Nat}:∀ {l:List Re} {x:Re} {g g1 g2:Nat},formL l lv d g=some g1→form x lv d g1=some g2→formL (l++[x]) lv d g=some g2
 | [],x,g,g1,g2,h,hx=>by
   rw[formL] at h;injection h with h
   subst h;rw[List.nil_append,formL_one];exact hx
 | y::l,x,g,g1,g2,h,hx=>by
   rw[formL] at h;rw[List.cons_append,formL]
   cases hy:form y lv d g with
   | none=>rw[hy] at h;cases h
   | some g3=>
     rw[hy] at h;exact formL_snoc h hx
theorem sizeL_app (x:Re):∀ l:List Re,sizeL (l++[x])=sizeL l+sizeE x
 | []=>by simp[sizeL]
 | y::l=>by rw[List.cons_append,sizeL,sizeL_app x l,sizeL];omega
def MadeA (s:Bs) (rd:Rd) (lv d:Nat):Prop:=∀ k g x q g',k<s.length→rd k g= .ok x q g'→form x lv d g=some g'∧sizeE x+2 * k≤2 * q
def MadeE (s:Bs) (rd:Rd) (lv d:Nat):Prop:=∀ k g x q g',k≤s.length→rd k g= .ok x q g'→form x lv d g=some g'∧sizeE x+2 * k≤2 * q+1
theorem set_form (S:S4) (lv d g:Nat):form (rSet S) lv d g=some g:=by simp[rSet,form,told,lev,formL]
theorem set_size (S:S4):sizeE (rSet S)=1:=by simp[rSet,sizeE,sizeL]
theorem atom_made {s:Bs} {grp:Rd} {d:Nat} (hg:MadeA s grp 0 d):MadeA s (atomR grp s) 0 d:=by
 intro k g x q g' hk h;unfold atomR at h
 split at h
 ·injection h with h1 h2 h3
  subst h1 h2 h3;exact⟨by simp[rBegin,form,told,lev,formL],by simp[rBegin,sizeE,sizeL];omega⟩
 ·split at h
  ·injection h with h1 h2 h3
   subst h1 h2 h3;exact⟨by simp[rEnd,form,told,lev,formL],by simp[rEnd,sizeE,sizeL];omega⟩
  ·split at h
   ·injection h with h1 h2 h3
    subst h1 h2 h3;exact⟨set_form _ _ _ _,by rw[set_size];omega⟩
   ·split at h
    ·exact hg k g x q g' hk h
    ·split at h
     ·have hb:=cls_bd (s:=s) (k:=k+1) (by omega)
      rcases hc:cls s (k+1) with p | ⟨S,p⟩
      ·rw[hc] at h;cases h
      ·rw[hc] at h hb
       injection h with h1 h2 h3
       subst h1 h2 h3;dsimp only at hb;exact⟨set_form _ _ _ _,by rw[set_size];omega⟩
     ·rcases hc:rb sgA s k with p | ⟨c,p⟩
      ·rw[hc] at h;cases h
      ·have hb:=rb_ok (by omega) hc
       rw[hc] at h;injection h with h1 h2 h3
       subst h1 h2 h3;exact⟨set_form _ _ _ _,by rw[set_size];omega⟩
theorem rep_form {x:Re} {lo hi:Int} {d g g':Nat} (h:form x 0 d g=some g') (hr:rep x=true) (hb:bound lo hi=true):form (rRep x lo hi) 1 d g=some g':=by
 unfold rRep;rw[form,if_pos ⟨by simp[lev],by simp[told,hr,hb]⟩,if_neg (by decide)];rw[show levK 6=0 from rfl,formL_one];exact h
theorem rep_size (x:Re) (lo hi:Int):sizeE (rRep x lo hi)=1+sizeE x:=by simp[rRep,sizeE,sizeL]
theorem bnds_bound {s:Bs} {k p:Nat} {b:Int × Int} (h:bnds s k= .ok b p):bound b.1 b.2=true:=by
 unfold bnds at h
 rcases h1:numb s k 0 with _ | lo
 ·rw[h1] at h;cases h
 ·rw[h1] at h
  obtain⟨_,l0,l8,_⟩:=numb_lt h1;dsimp only at h
  split at h
  ·split at h
   ·injection h with h _
    subst h;simp[bound];omega
   ·rcases h2:numb s (k+2) lo with _ | hi
    ·rw[h2] at h;cases h
    ·rw[h2] at h
     obtain⟨_,m0,m8,_⟩:=numb_lt h2;dsimp only at h;unfold closeB at h
     split at h
     ·injection h with h _
      subst h;simp[bound];omega
     ·cases h
  ·unfold closeB at h
   split at h
   ·injection h with h _
    subst h;simp[bound];omega
   ·cases h
theorem piece_made {s:Bs} {grp:Rd} {d:Nat} (hgd:Good s grp) (hg:MadeA s grp 0 d):MadeA s (pieceC grp s) 1 d:=by
 intro k g x q g' hk h;have hgood:=(atomR_good hgd k g hk).2;unfold pieceC at h
 rcases ha:atomR grp s k g with ⟨p,e⟩ | ⟨y,p,g1⟩
 ·rw[ha] at h;cases h
 ·obtain⟨hf,hs⟩:=atom_made hg k g y p g1 hk ha
  have hp:=hgood y p g1 ha;rw[ha] at h;dsimp only at h;have hf1:form y 1 d g=some g1:=form_lv hf (by obtain⟨kk,_,_,_,_,_⟩:=y;have:=(form_is hf).1;show lev kk≤1;omega)
  split at h
  ·rename_i hr
   unfold tailP at h
   split at h
   ·injection h with h1 h2 h3
    subst h1 h2 h3;exact⟨rep_form hf hr (by decide),by rw[rep_size];omega⟩
   ·split at h
    ·injection h with h1 h2 h3
     subst h1 h2 h3;exact⟨rep_form hf hr (by decide),by rw[rep_size];omega⟩
    ·split at h
     ·injection h with h1 h2 h3
      subst h1 h2 h3;exact⟨rep_form hf hr (by decide),by rw[rep_size];omega⟩
     ·split at h
      ·rename_i h123
       have hlt:=lt_of_get h123;have hb:=bnds_bd (s:=s) (k:=p+1) (by omega)
       rcases hc:bnds s (p+1) with p2 | ⟨b,p2⟩
       ·rw[hc] at h;cases h
       ·have hbb:=bnds_bound hc
        rw[hc] at h hb;injection h with h1 h2 h3
        subst h1 h2 h3;dsimp only at hb;exact⟨rep_form hf hr hbb,by rw[rep_size];omega⟩
      ·injection h with h1 h2 h3
       subst h1 h2 h3;exact⟨hf1,hs⟩
  ·injection h with h1 h2 h3
   subst h1 h2 h3;exact⟨hf1,hs⟩
theorem rowL_made {s:Bs} {pc:Rd} {d:Nat} (hgd:Good s pc) (hp:MadeA s pc 1 d) {k0 g0:Nat}:∀ (n k g:Nat) (acc:List Re),s.length - k<n→k≤s.length→formL acc 1 d g0=some g→sizeL acc+2 * k0≤2 * k→∀ l q g',rowL pc s k g acc= .ok l q g'→formL l 1 d g0=some g'∧sizeL l+2 * k0≤2 * q
 | 0,k,g,acc,h,_,_,_=>by omega
 | n+1,k,g,acc,h,hk,hf,hs=>by
   intro l q g' hr
   cases hst:stops s k with
   | true=>
     rw[rowL_end hst] at hr;injection hr with h1 h2 h3
     subst h1 h2 h3;exact⟨hf,hs⟩
   | false=>
     have hlt:=not_stops hst
     rcases ha:pc k g with ⟨p,e⟩ | ⟨y,p,g1⟩
     ·rw[rowL_bad hst ha] at hr;cases hr
     ·have hb:=(hgd k g hlt).2 y p g1 ha
      obtain⟨h1,h2⟩:=hp k g y p g1 hlt ha;rw[rowL_ok hst ha hb] at hr;exact rowL_made hgd hp n p g1 (acc++[y]) (by omega) hb.2 (formL_snoc hf h1) (by rw[sizeL_app];omega) l q g' hr
theorem rowF_form {l:List Re} {d g g':Nat} (h:formL l 1 d g=some g'):form (mkRow l) 2 d g=some g':=by
 match l,h with
 | [],h=>
   rw[formL] at h;injection h with h
   subst h;simp[mkRow,form,told,lev,formL]
 | [r],h=>
   rw[formL_one] at h;obtain⟨kk,S,ks,lo,hi,n⟩:=r;have:=(form_is h).1;exact form_lv h (by show lev kk≤2;omega)
 | a::b::l,h=>
   show form (.mk 4 none4 (a::b::l) 0 0 0) 2 d g=some g';rw[form,if_pos ⟨by simp[lev],by simp[told]⟩,if_neg (by decide)];exact h
theorem row_size (l:List Re):sizeE (mkRow l)≤sizeL l+1:=by
 match l with
 | []=>simp[mkRow,sizeE,sizeL]
 | [r]=>simp[mkRow,sizeL]
 | a::b::l=>show sizeE (.mk 4 none4 (a::b::l) 0 0 0)≤_;rw[sizeE];omega
theorem rowOf_made {s:Bs} {pc:Rd} {d:Nat} (hgd:Good s pc) (hp:MadeA s pc 1 d):MadeE s (rowOf pc s) 2 d:=by
 intro k g x q g' hk h;unfold rowOf at h
 rcases ha:rowL pc s k g [] with ⟨p,e⟩ | ⟨l,p,g1⟩
 ·rw[ha] at h;cases h
 ·rw[ha] at h
  injection h with h1 h2 h3
  subst h1 h2 h3;obtain⟨hf,hs⟩:=rowL_made hgd hp (k0:=k) (g0:=g) _ k g [] (Nat.lt_succ_self _) hk (by rw[formL]) (by simp[sizeL]) _ _ _ ha;have:=row_size l;exact⟨rowF_form hf,by omega⟩
theorem altL_made {s:Bs} {rw_:Rd} {d:Nat} (hgd:GoodE s rw_) (hp:MadeE s rw_ 2 d) {k0 g0:Nat}:∀ (n k g:Nat) (acc:List Re),s.length - k<n→k≤s.length→formL acc 2 d g0=some g→sizeL acc+2 * k0+(if acc=[] then 0 else 1)≤2 * k→∀ l q g',altL rw_ s k g acc= .ok l q g'→formL l 2 d g0=some g'∧l≠[]∧sizeL l+2 * k0+(if l.length=1 then 0 else 1)≤2 * q+1
 | 0,k,g,acc,h,_,_,_=>by omega
 | n+1,k,g,acc,h,hk,hf,hs=>by
   intro l q g' hr
   rcases ha:rw_ k g with ⟨p,e⟩ | ⟨y,p,g1⟩
   ·rw[altL_bad ha] at hr;cases hr
   ·have hb:=(hgd k g hk).2 y p g1 ha
    obtain⟨h1,h2⟩:=hp k g y p g1 hk ha;by_cases hc:s[p]?=some 124
    ·have hlt:=lt_of_get hc
     rw[altL_ok ha hc hb.1] at hr;exact altL_made hgd hp n (p+1) g1 (acc++[y]) (by omega) (by omega) (formL_snoc hf h1) (by rw[sizeL_app,if_neg (by simp)];split at hs <;> omega) l q g' hr
    ·rw[altL_end ha hc] at hr
     injection hr with h3 h4 h5
     subst h3 h4 h5;refine⟨formL_snoc hf h1,by simp,?_⟩;rw[sizeL_app];by_cases h0:acc=[]
     ·subst h0
      rw[if_pos rfl] at hs;rw[if_pos (by rfl)];omega
     ·have:(acc++[y]).length≠1:=by
       rw[List.length_append];have:=List.length_pos_iff.2 h0;simp;omega
      rw[if_neg h0] at hs;rw[if_neg this];omega
theorem altOf_made {s:Bs} {rw_:Rd} {d:Nat} (hgd:GoodE s rw_) (hp:MadeE s rw_ 2 d):MadeE s (altOf rw_ s) 3 d:=by
 intro k g x q g' hk h;unfold altOf at h
 rcases ha:altL rw_ s k g [] with ⟨p,e⟩ | ⟨l,p,g1⟩
 ·rw[ha] at h;cases h
 ·rw[ha] at h
  injection h with h1 h2 h3
  subst h1 h2 h3;obtain⟨hf,hn,hs⟩:=altL_made hgd hp (k0:=k) (g0:=g) _ k g [] (Nat.lt_succ_self _) hk (by rw[formL]) (by simp[sizeL]) _ _ _ ha
  match l,hn,hf,hs with
  | [r],_,hf,hs=>
    rw[formL_one] at hf;rw[if_pos (show [r].length=1 from rfl)] at hs;obtain⟨kk,S,ks,lo,hi,n⟩:=r;have:=(form_is hf).1;refine⟨form_lv hf (by show lev kk≤3;omega),?_⟩;simp only[sizeL] at hs;show sizeE (.mk kk S ks lo hi n)+2 * k≤_;omega
  | a::b::l,_,hf,hs=>
    rw[if_neg (by simp)] at hs;refine⟨?_,?_⟩
    ·show form (.mk 5 none4 (a::b::l) 0 0 0) 3 d g=some _
     rw[form,if_pos ⟨by simp[lev],by simp[told]⟩,if_neg (by decide)];exact hf
    ·show sizeE (.mk 5 none4 (a::b::l) 0 0 0)+2 * k≤_
     rw[sizeE];omega
theorem grp_form {x:Re} {d g g':Nat} (hd:d<64) (h:form x 3 (d+1) (g+1)=some g'):form (rGrp x (num (g+1))) 0 d g=some g':=by
 unfold rGrp;rw[form,if_pos ⟨by simp[lev],by simp[told]⟩,if_pos rfl,if_pos ⟨rfl,hd⟩,formL_one];exact h
theorem grpM_made {s:Bs}:∀ m d,m+d=64→MadeA s (grpC s m) 0 d
 | 0,d,_=>by
   intro k g x q g' hk h
   cases h
 | m+1,d,hm=>by
   intro k g x q g' hk h;have hgd:=grpM_good (s:=s) (pc:=fun grp=>pieceC grp s) (fun _ h=>pieceC_good h) m;have he:=altOf_made (rowOf_good (pieceC_good hgd)) (rowOf_made (pieceC_good hgd) (piece_made hgd (grpM_made m (d+1) (by omega))));unfold grpC at h;rw[grpM_succ] at h;unfold grpR at h
   rcases ha:exM (fun grp=>pieceC grp s) s m (k+1) (g+1) with ⟨p,e⟩ | ⟨y,p,g1⟩
   ·rw[ha] at h;cases h
   ·obtain⟨hf,hs⟩:=he (k+1) (g+1) y p g1 (by omega) ha
    rw[ha] at h;dsimp only at h
    split at h
    ·injection h with h1 h2 h3
     subst h1 h2 h3;refine⟨grp_form (by omega) hf,?_⟩;have:sizeE (rGrp y (num (g+1)))=1+sizeE y:=by simp[rGrp,sizeE,sizeL]
     omega
    ·cases h
theorem exC_made (s:Bs) (m d:Nat) (hm:m+d=64):MadeE s (exC s m) 3 d:=
 have hgd:=grpM_good (s:=s) (pc:=fun grp=>pieceC grp s) (fun _ h=>pieceC_good h) m
 altOf_made (rowOf_good (pieceC_good hgd)) (rowOf_made (pieceC_good hgd) (piece_made hgd (grpM_made m d hm)))
theorem parse_made {s:Bs} {x:Re} {q:Nat} {e:Int} (h:parseE s=(some x,q,e)):s.length≤200∧(∃ g,form x 3 0 0=some g)∧sizeE x≤401:=by
 unfold parseE at h
 split at h
 ·cases h
 ·rename_i hl
  rcases ha:exC s 64 0 0 with ⟨p,e⟩ | ⟨y,p,g1⟩
  ·rw[ha] at h;cases h
  ·obtain⟨hf,hs⟩:=exC_made s 64 0 (by omega) 0 0 y p g1 (by omega) ha
   have hb:=((exC_good s 64) 0 0 (by omega)).2 y p g1 ha;rw[ha] at h;dsimp only at h
   split at h
   ·cases h
   ·injection h with h1 _
    injection h1 with h1
    subst h1;exact⟨by omega,⟨g1,hf⟩,by omega⟩
theorem atom_sign {grp:Rd} {s:Bs} {q:Nat} (g:Nat) (h:signAt s q):atomR grp s q g= .bad q 1:=by
 obtain⟨c,hc,hs⟩:=h
 have hne:∀ d:UInt8,d∈([94,36,46,40,91]:Bs)→s[q]?≠some d:=by
  intro d hd e;rw[hc] at e;injection e with e
  subst e
  revert hs hd
  simp[sgR];rintro(rfl | rfl | rfl | rfl) <;> simp
 unfold atomR;rw[if_neg (hne 94 (by decide)),if_neg (hne 36 (by decide)),if_neg (hne 46 (by decide)),if_neg (hne 40 (by decide)),if_neg (hne 91 (by decide)),rb_get,hc];have h92:c≠92:=by rintro rfl;revert hs;decide
 have hA:c∈sgA:=by revert hs;simp[sgR,sgA];rintro(rfl | rfl | rfl | rfl) <;> simp
 dsimp only;rw[if_neg h92,if_pos hA]
theorem sign_not_stops {s:Bs} {q:Nat} (h:signAt s q):stops s q=false:=by
 obtain⟨c,hc,hs⟩:=h;unfold stops;rw[hc];dsimp only
 revert hs
 simp[sgR];rintro(rfl | rfl | rfl | rfl) <;> decide
theorem rowL_both {s:Bs} {g1 g2:Rd} (hgd:Good s g1) (he:∀ k g,k<s.length→g1 k g=g2 k g):∀ (n k g:Nat) (acc:List Re),s.length - k<n→k≤s.length→rowL (pieceC g1 s) s k g acc=rowL (pieceR g2 s) s k g acc
 | 0,k,g,acc,h,_=>by omega
 | n+1,k,g,acc,h,hk=>by
   cases hst:stops s k with
   | true=>rw[rowL_end hst,rowL_end hst]
   | false=>
     have hlt:=not_stops hst
     have hat:atomR g1 s k g=atomR g2 s k g:=by
      unfold atomR;rw[he k g hlt]
     have hgood:=atomR_good hgd k g hlt
     have hp1:pieceC g1 s k g=match atomR g1 s k g with
      | .bad q e=> .bad q e
      | .ok x q g'=>if rep x=true then tailP s x q g' else .ok x q g':=rfl
     have hp2:pieceR g2 s k g=match atomR g1 s k g with
      | .bad q e=> .bad q e
      | .ok x q g'=>if rep x=true then tailP s x q g' else @ite _ (signAt s q) (Classical.propDecidable _) (.bad q 1) (.ok x q g'):=by rw[hat];rfl
     rcases ha:atomR g1 s k g with ⟨p,e⟩ | ⟨y,p,gg⟩
     ·rw[ha] at hp1 hp2
      rw[rowL_bad hst hp1,rowL_bad hst hp2]
     ·have hb:=hgood.2 y p gg ha
      rw[ha] at hp1 hp2;dsimp only at hp1 hp2;by_cases hr:rep y=true
      ·rw[if_pos hr] at hp1 hp2
       have ht:=tailP_good (s:=s) (x:=y) (g:=gg) hb.1 hb.2
       rcases hta:tailP s y p gg with ⟨p2,e2⟩ | ⟨y2,p2,gg2⟩
       ·rw[hta] at hp1 hp2
        rw[rowL_bad hst hp1,rowL_bad hst hp2]
       ·rw[hta] at hp1 hp2
        have hb2:=ht.2 y2 p2 gg2 hta;rw[rowL_ok hst hp1 hb2,rowL_ok hst hp2 hb2];exact rowL_both hgd he n p2 gg2 _ (by omega) hb2.2
      ·rw[if_neg hr] at hp1 hp2
       by_cases hs:signAt s p
       ·rw[if_pos hs] at hp2
        rw[rowL_bad hst hp2,rowL_ok hst hp1 hb,rowL_bad (sign_not_stops hs) (by unfold pieceC;rw[atom_sign gg hs])]
       ·rw[if_neg hs] at hp2
        rw[rowL_ok hst hp1 hb,rowL_ok hst hp2 hb];exact rowL_both hgd he n p gg _ (by omega) hb.2
theorem rowOf_both {s:Bs} {g1 g2:Rd} (hgd:Good s g1) (he:∀ k g,k<s.length→g1 k g=g2 k g) (k g:Nat) (hk:k≤s.length):rowOf (pieceC g1 s) s k g=rowOf (pieceR g2 s) s k g:=by
 unfold rowOf;rw[rowL_both hgd he _ k g [] (Nat.lt_succ_self _) hk]
theorem altL_both {s:Bs} {r1 r2:Rd} (hgd:GoodE s r1) (he:∀ k g,k≤s.length→r1 k g=r2 k g):∀ (n k g:Nat) (acc:List Re),s.length - k<n→k≤s.length→altL r1 s k g acc=altL r2 s k g acc
 | 0,k,g,acc,h,_=>by omega
 | n+1,k,g,acc,h,hk=>by
   have e:=he k g hk
   rcases ha:r1 k g with ⟨p,er⟩ | ⟨y,p,gg⟩
   ·rw[altL_bad ha,altL_bad (e.symm.trans ha)]
   ·have hb:=(hgd k g hk).2 y p gg ha
    by_cases hc:s[p]?=some 124
    ·have hlt:=lt_of_get hc
     rw[altL_ok ha hc hb.1,altL_ok (e.symm.trans ha) hc hb.1];exact altL_both hgd he n (p+1) gg _ (by omega) (by omega)
    ·rw[altL_end ha hc,altL_end (e.symm.trans ha) hc]
theorem altOf_both {s:Bs} {r1 r2:Rd} (hgd:GoodE s r1) (he:∀ k g,k≤s.length→r1 k g=r2 k g) (k g:Nat) (hk:k≤s.length):altOf r1 s k g=altOf r2 s k g:=by
 unfold altOf;rw[altL_both hgd he _ k g [] (Nat.lt_succ_self _) hk]
noncomputable abbrev grpRR (s:Bs) (m:Nat):Rd:=grpM (fun grp=>pieceR grp s) s m
theorem grp_both (s:Bs):∀ m k g,k<s.length→grpC s m k g=grpRR s m k g
 | 0,k,g,_=>rfl
 | m+1,k,g,hk=>by
   have hgd:=grpM_good (s:=s) (pc:=fun grp=>pieceC grp s) (fun _ h=>pieceC_good h) m
   have e:exM (fun grp=>pieceC grp s) s m (k+1) (g+1)=exM (fun grp=>pieceR grp s) s m (k+1) (g+1):=
    altOf_both (rowOf_good (pieceC_good hgd)) (fun k g hk=>rowOf_both hgd (grp_both s m) k g hk) (k+1) (g+1) (by omega)
   show grpM _ s (m+1) k g=grpM _ s (m+1) k g;rw[grpM_succ,grpM_succ];unfold grpR;rw[e]
theorem ex_both (s:Bs) (m k g:Nat) (hk:k≤s.length):exC s m k g=exR s m k g:=
 have hgd:=grpM_good (s:=s) (pc:=fun grp=>pieceC grp s) (fun _ h=>pieceC_good h) m
 altOf_both (rowOf_good (pieceC_good hgd)) (fun k g hk=>rowOf_both hgd (grp_both s m) k g hk) k g hk
def RightP (r:Re):Prop:=(∃ g,form r 3 0 0=some g)∧(textE r).length≤200
theorem right_print (r:Re):(printE r).2=0 ↔ RightP r:=by
 unfold printE RightP
 cases hf:form r 3 0 0 with
 | none=>simp
 | some g=>
   dsimp only;by_cases hl:200<(textE r).length
   ·rw[if_pos hl];simp;omega
   ·rw[if_neg hl];simp;omega
theorem textL_ext {sep:Bs} {l l':List Re} (h:unNL l'=unNL l) (ih:∀ r∈l,∀ r',unN r'=unN r→textE r'=textE r):joinT sep l'=joinT sep l∧tailT sep l'=tailT sep l:=by
 induction l generalizing l' with
 | nil=>
   cases l' with
   | nil=>exact⟨rfl,rfl⟩
   | cons a t=>rw[unNL,unNL] at h;cases h
 | cons r l ihl=>
   cases l' with
   | nil=>rw[unNL,unNL] at h;cases h
   | cons a t=>
     rw[unNL,unNL] at h;injection h with h1 h2
     have e1:=ih r (List.mem_cons_self ..) a h1;obtain⟨_,e3⟩:=ihl h2 fun r' hr'=>ih r' (List.mem_cons_of_mem _ hr')
     exact⟨by rw[joinT,joinT,e1,e3],by rw[tailT,tailT,e1,e3]⟩
theorem text_unN (r:Re):∀ r',unN r'=unN r→textE r'=textE r:=by
 induction r using Re.ind with
 | h k S ks lo hi n ih=>
   intro r' h;obtain⟨k',S',ks',lo',hi',n'⟩:=r';rw[unN,unN] at h;injection h with h1 h2 h3 h4 h5 _
   subst h1 h2 h4 h5;rw[textE,textE,(textL_ext (sep:=[]) h3 ih).1,(textL_ext (sep:=if k'=5 then [124] else []) h3 ih).1]
theorem text_cat (l:List Re):textE (.mk 4 none4 l 0 0 0)=joinT [] l:=by rw[textE];simp
theorem right_of_parse {s:Bs} {r:Re} (h:parseE s=(some r,0,0)) (hl:(textE r).length≤200):RightP r:=by
 obtain⟨_,h2,_⟩:=parse_made h;exact⟨h2,hl⟩
theorem parts_law {a b:Bs} {xa yb x y both either:Re} (ha:parseE a=(some xa,0,0)) (hb:parseE b=(some yb,0,0)) (la:a.length<64) (lb:b.length<64)
  (hx:parseE (brk a)=(some x,0,0)) (hy:parseE (brk b)=(some y,0,0)) (h2:parseE (brk a++brk b)=(some both,0,0)) (h3:parseE (brk a++124::brk b)=(some either,0,0)) (hr:RightP both):
  RightP x∧RightP y∧(∀ w,Lang both w ↔ ∃ i,i≤w.length∧Lang x (w.take i)∧Lang y (w.drop i))∧∀ w,Lang either w ↔ Lang x w∨Lang y w:=by
 obtain⟨x',e1,u1⟩:=parse_brk ha la;rw[hx] at e1;injection e1 with e1 _;injection e1 with e1;subst e1
 obtain⟨y',e1,u2⟩:=parse_brk hb lb;rw[hy] at e1;injection e1 with e1 _;injection e1 with e1;subst e1
 obtain⟨z',e1,u3⟩:=parse_both ha hb la lb;rw[h2] at e1;injection e1 with e1 _;injection e1 with e1;subst e1
 obtain⟨w',e1,u4⟩:=parse_either ha hb la lb;rw[h3] at e1;injection e1 with e1 _;injection e1 with e1;subst e1
 have hl:=hr.2;rw[text_unN _ _ u3,text_cat,joinT,tailT,tailT] at hl;simp only[List.length_append,List.length_nil] at hl;refine⟨right_of_parse hx (by rw[text_unN _ _ u1];omega),right_of_parse hy (by rw[text_unN _ _ u2];omega),fun w=>?_,fun w=>?_⟩
 ·rw[lang_unN _ _ u3,lang_cat2,lang_unN _ _ u1,lang_unN _ _ u2]
 ·rw[lang_unN _ _ u4,lang_alt2,lang_unN _ _ u1,lang_unN _ _ u2]
theorem repeats_law {a:Bs} {xa x r23 two three opt many then_:Re} (ha:parseE a=(some xa,0,0)) (la:a.length<64) (hx:parseE (brk a)=(some x,0,0)) (h23:parseE (brk a++[123,50,44,51,125])=(some r23,0,0))
  (h2:parseE (brk a++brk a)=(some two,0,0)) (h3:parseE (brk a++(brk a++brk a))=(some three,0,0)) (ho:parseE (brk a++[63])=(some opt,0,0)) (hm:parseE (brk a++[42])=(some many,0,0)) (ht:parseE (brk a++(brk a++[42]))=(some then_,0,0)):
  (∀ w,Lang r23 w ↔ Lang two w∨Lang three w)∧(∀ w,Lang opt w ↔ w=[]∨Lang x w)∧∀ w,Lang many w ↔ w=[]∨Lang then_ w:=by
 obtain⟨x',e1,u1⟩:=parse_brk ha la;rw[hx] at e1;injection e1 with e1 _;injection e1 with e1;subst e1
 obtain⟨y',e1,u2⟩:=parse_23 ha la;rw[h23] at e1;injection e1 with e1 _;injection e1 with e1;subst e1
 obtain⟨z',e1,u3⟩:=parse_both ha ha la la;rw[h2] at e1;injection e1 with e1 _;injection e1 with e1;subst e1
 obtain⟨w',e1,u4⟩:=parse_thrice ha la;rw[h3] at e1;injection e1 with e1 _;injection e1 with e1;subst e1
 obtain⟨w',e1,u5⟩:=parse_opt ha la;rw[ho] at e1;injection e1 with e1 _;injection e1 with e1;subst e1
 obtain⟨w',e1,u6⟩:=parse_many ha la;rw[hm] at e1;injection e1 with e1 _;injection e1 with e1;subst e1
 obtain⟨w',e1,u7⟩:=parse_then ha la;rw[ht] at e1;injection e1 with e1 _;injection e1 with e1;subst e1
 refine⟨fun w=>?_,fun w=>?_,fun w=>?_⟩
 ·rw[lang_unN _ _ u2,lang_23,lang_unN _ _ u3,lang_unN _ _ u4]
 ·rw[lang_unN _ _ u5,lang_opt,lang_unN _ _ u1]
 ·rw[lang_unN _ _ u6,lang_many,lang_unN _ _ u7]
theorem parse_ends (s:Bs) (hs:s.length≤200):(∃ x,parseE s=(some x,0,0))∨∃ q er,parseE s=(none,q,er)∧q≤s.length∧(er=1∨er=8∧q<s.length):=by
 unfold parseE;rw[if_neg (by omega)]
 rcases ha:exC s 64 0 0 with ⟨q,e⟩ | ⟨x,q,g'⟩
 ·obtain⟨_,h2,h3⟩:=(exC_good s 64 0 0 (by omega)).1 q e ha
  exact .inr ⟨q,e,rfl,h2,h3⟩
 ·dsimp only
  by_cases hq:q<s.length
  ·rw[if_pos hq];exact .inr ⟨q,1,rfl,by omega,.inl rfl⟩
  ·rw[if_neg hq];exact .inl ⟨x,rfl⟩
end Go.Proofs.YtiafefjaldcpbaaDoor
