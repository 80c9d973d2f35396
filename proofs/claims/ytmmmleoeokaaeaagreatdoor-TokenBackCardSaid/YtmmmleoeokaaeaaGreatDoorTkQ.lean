import Derived.Test.YtmmmleoeokaaeaaGreatDoorTkD
import Derived.Test.YtmmmleoeokaaeaaGreatDoorTkK
namespace Go.Proofs.YtmmmleoeokaaeaaGreatDoor
open Go Go.RowKit
set_option maxHeartbeats 2000000
theorem tk_all:∀ (k:Nat) (l:Bs),tk k l=l.length→l.all isIn=true
 | _,[],_=>rfl
 | 0,c::r,h=>by simp[tk] at h
 | k+1,c::r,h=>by
   rw[tk_cons] at h
   split at h
   ·rename_i hc
    rw[List.all_cons,hc,tk_all k r (by rw[List.length_cons] at h;omega)];rfl
   ·rw[List.length_cons] at h;omega
theorem dig_in (c:UInt8) (h:isDig c=true):isIn c=true:=by unfold isIn;rw[h];simp
theorem name_all {w:Bs} (h:isName w=true):w≠[]∧w.all isIn=true:=by
 unfold isName at h;rw[Bool.and_eq_true] at h;obtain⟨h1,h2⟩:=h;have h2:=of_decide_eq_true h2
 cases w with
 | nil=>simp at h1
 | cons c r=>
   refine⟨by simp,?_⟩;rw[nameLen_cons,List.length_cons] at h2
   split at h2
   ·rename_i hd
    have:r=[]:=List.eq_nil_of_length_eq_zero (by omega);subst this;simp[dig_in c hd]
   ·split at h2
    ·rename_i hl
     rw[List.all_cons,low_in c hl,tk_all 7 r (by omega)];rfl
    ·omega
def Behind (rest:Bs):Prop:=∀ c,rest.head?=some c→c=32
theorem behind_stop {rest:Bs} (h:Behind rest) (p:UInt8→Bool) (hp:p 32=false):∀ c,rest.head?=some c→p c=false:=fun c hc=>by rw[h c hc];exact hp
theorem numR_dec (u:Nat) (hu:u<9223372036854775808):numR (Lib.decDigits u)=((u:Int),0):=by
 obtain⟨h1,h2,h3,h4⟩:=dec_facts u;unfold numR
 have hno:¬ ((Lib.decDigits u).head?=some 48∧¬ (Lib.decDigits u).length=1):=by
  rintro⟨a,b⟩;by_cases h0:u=0
  ·subst h0
   rw[dec_small (by decide)] at b;exact b rfl
  ·exact h4 h0 a
 rw[if_neg hno,h2,if_pos hu]
theorem digB_dig (c:UInt8) (h:digB c=true):isDig c=true:=by
 have:isDig c=digB c:=by
  unfold isDig digB;rw[Bool.eq_iff_iff];simp;omega
 rw[this];exact h
theorem okT_kinds {t:Tok} (h:okT t=true) (h2:¬ t.kind=2) (h3:¬ t.kind=3):t.n=0∧t.parts=[]∧mayW t.kind t.word=true:=by
 unfold okT at h;rw[if_neg h2,if_neg h3] at h;simp only[Bool.and_eq_true,decide_eq_true_eq,List.isEmpty_iff] at h;exact⟨h.1.2,h.2,h.1.1⟩
theorem with0 (t:Tok) (k:Int) (w:Bs) (n:Int) (ps:List Pt) (h1:t.kind=k) (h2:t.word=w) (h3:t.n=n) (h4:t.parts=ps):withPl t 0=⟨k,w,n,ps,0⟩:=by subst h1 h2 h3 h4;rfl
theorem wordR_yes {k:Int} {w:Bs} (h:mayW k w=true) (q:Nat):wordR k w q= .ok ⟨k,w,0,[],0⟩ q:=by unfold wordR;rw[if_pos h]
theorem tok_text (t:Tok) (rest:Bs) (ho:okT t=true) (hn:t.n≤9223372036854775807) (hb:Behind rest):tokR (textT t++rest)= .ok (withPl t 0) (textT t).length:=by
 by_cases k2:t.kind=2
 ·have h:=ho
  unfold okT at h;rw[if_pos k2] at h;simp only[Bool.and_eq_true,decide_eq_true_eq,List.isEmpty_iff] at h;obtain⟨⟨h1,h2⟩,h3⟩:=h
  have e:textT t=Lib.decDigits t.n.toNat:=by
   unfold textT Lib.itoa;rw[if_pos k2,if_neg (by omega)]
  have hu:t.n.toNat<9223372036854775808:=by omega
  obtain⟨d1,d2,d3,_⟩:=dec_facts t.n.toNat;have hr:=numR_dec _ hu;rw[e];generalize Lib.decDigits t.n.toNat=l at d1 d3 hr ⊢
  cases l with
  | nil=>exact absurd rfl d3
  | cons c r=>
    have hall:(c::r).all isDig=true:=by
     rw[List.all_eq_true] at d1 ⊢;exact fun x hx=>digB_dig x (d1 x hx)
    have hd:isDig c=true:=by rw[List.all_cons,Bool.and_eq_true] at hall;exact hall.1
    have hrun:=runL_stop isDig (c::r) rest hall (behind_stop hb isDig (by decide));have h34:c≠34:=by rintro rfl;revert hd;decide
    have hx:tokR (c::r++rest)=numT (c::r++rest):=by
     rw[List.cons_append];unfold tokR;dsimp only;rw[if_neg h34,if_pos hd]
    rw[hx];unfold numT;rw[hrun,List.take_left' rfl,hr,if_pos rfl];rw[with0 t 2 [] t.n.toNat [] k2 h1 (by omega) h3]
 ·by_cases k3:t.kind=3
  ·have h:=ho
   unfold okT at h;rw[if_neg k2,if_pos k3] at h;simp only[Bool.and_eq_true,decide_eq_true_eq,List.isEmpty_iff] at h;obtain⟨⟨h1,h2⟩,h3⟩:=h;have e:textT t=print t.parts:=textT_3 k3;have hp:=parse_print t.parts rest h3;rw[e]
   have hx:tokR (print t.parts++rest)=textR (print t.parts++rest):=by
    unfold print;rw[List.cons_append];unfold tokR;dsimp only;rw[if_pos rfl]
   rw[hx];unfold textR;rw[hp,with0 t 3 [] 0 t.parts k3 h1 h2 rfl]
  ·obtain⟨n0,p0,hm⟩:=okT_kinds ho k2 k3
   by_cases k5:t.kind=5
   ·rw[textT_5 k5,List.cons_append]
    rw[k5,mayW_5] at hm
    have hx:∀ w:Bs,isFlagL w=true→lowHead w=true∧w.all isLow=true:=by
     intro w hw;unfold isFlagL at hw
     rcases of_decide_eq_true hw with h | h | h | h <;> (subst h;decide)
    obtain⟨f1,f2⟩:=hx _ hm;have hrun:=runL_stop isLow t.word rest f2 (behind_stop hb isLow (by decide))
    have hlow:lowHead (t.word++rest)=true:=by
     generalize t.word=w at f1
     cases w with
     | nil=>cases f1
     | cons c r=>exact f1
    unfold tokR;dsimp only;rw[if_neg (by decide),if_neg (by decide),if_neg (by decide),if_neg (by decide),if_pos ⟨rfl,hlow⟩,hrun,List.take_left' rfl,wordR_yes (by rw[mayW_5];exact hm),with0 t 5 t.word 0 [] k5 rfl n0 p0]
    rfl
   ·by_cases k6:t.kind=6
    ·rw[textT_6 k6,List.cons_append]
     rw[k6,mayW_6] at hm;obtain⟨_,f2⟩:=name_all hm;have hrun:=runL_stop isIn t.word rest f2 (behind_stop hb isIn (by decide));unfold tokR;dsimp only;rw[if_neg (by decide),if_neg (by decide),if_neg (by decide),if_pos rfl,hrun,List.take_left' rfl,wordR_yes (by rw[mayW_6];exact hm),with0 t 6 t.word 0 [] k6 rfl n0 p0]
     rfl
    ·rw[textT_x k2 k3 k5 k6]
     by_cases k1:t.kind=1
     ·rw[k1,mayW_1] at hm
      rw[with0 t 1 t.word 0 [] k1 rfl n0 p0];generalize t.word=w at hm
      cases w with
      | nil=>cases hm
      | cons c r=>
        have hm2:=hm
        change (isLow c && r.all isIn && decide (r.length≤13))=true at hm2
        simp only[Bool.and_eq_true] at hm2;obtain⟨⟨h1,h2⟩,_⟩:=hm2;obtain⟨h34,hd,_,_⟩:=head_low c h1;have hall:(c::r).all isIn=true:=by rw[List.all_cons,low_in c h1,h2];rfl
        have hrun:=runL_stop isIn (c::r) rest hall (behind_stop hb isIn (by decide));rw[List.cons_append] at hrun ⊢;unfold tokR;dsimp only;rw[if_neg h34,if_neg (by rw[hd];decide),if_pos h1,hrun,show (c::(r++rest)).take (c::r).length=c::r from List.take_left' (l₁:=c::r) rfl,wordR_yes (by rw[mayW_1];exact hm)]
     ·by_cases k4:t.kind=4
      ·rw[k4,mayW_4] at hm
       rw[with0 t 4 t.word 0 [] k4 rfl n0 p0];have hs:=sign_cases hm;generalize t.word=w at hs;unfold sgns at hs;simp only[List.mem_cons,List.not_mem_nil,or_false] at hs
       have hrest:rest=[]∨∃ r,rest=32::r:=by
        cases rest with
        | nil=>exact .inl rfl
        | cons c r=>exact .inr ⟨r,by rw[hb c rfl]⟩
       rcases hrest with rfl | ⟨r,rfl⟩
       ·rcases hs with h | h | h | h | h | h | h | h | h | h | h | h | h | h | h | h | h | h <;> (subst h;rfl)
       ·rcases hs with h | h | h | h | h | h | h | h | h | h | h | h | h | h | h | h | h | h <;> (subst h;rfl)
      ·exfalso
       unfold mayW at hm;rw[if_neg k1,if_neg k4,if_neg k5,if_neg k6] at hm
       cases hm
theorem tok_head {l:Bs} {t:Tok} {q:Nat} (h:tokR l= .ok t q):∀ c,l.head?=some c→isBl c=false∧c≠35:=by
 intro c hc
 cases l with
 | nil=>cases hc
 | cons d r=>
   injection hc with hc
   subst hc;by_cases hx:isBl d=false∧d≠35
   ·exact hx
   ·exfalso
    have hb:d=32∨d=9∨d=10∨d=35:=by
     have hy:∀ d:UInt8,¬ (isBl d=false∧d≠35)→d=32∨d=9∨d=10∨d=35:=all256 _ (by decide+kernel);exact hy d hx
    have hs:tokR (d::r)=wordR 4 ((d::r).take (signL (d::r))) (signL (d::r)):=by
     unfold tokR;dsimp only
     rcases hb with h | h | h | h <;> (subst h;rw[if_neg (by decide),if_neg (by decide),if_neg (by decide),if_neg (by decide),if_neg (by rintro⟨h,_⟩;revert h;decide)])
    rw[hs] at h;obtain⟨_,_,hm⟩:=wordR_ok h;rw[mayW_4] at hm;have hl:=sign_len hm;have hc:=sign_cases hm;have hz:∀ x∈sgns,x.head?≠some 32∧x.head?≠some 9∧x.head?≠some 10∧x.head?≠some 35:=by decide
    have hy:=hz _ hc
    have hh:((d::r).take (signL (d::r))).head?=some d:=by
     cases hsl:signL (d::r) with
     | zero=>rw[hsl] at hl;simp at hl
     | succ n=>rfl
    rw[hh] at hy;obtain⟨y1,y2,y3,y4⟩:=hy
    rcases hb with h | h | h | h
    ·exact y1 (by rw[h])
    ·exact y2 (by rw[h])
    ·exact y3 (by rw[h])
    ·exact y4 (by rw[h])
theorem text_ne (t:Tok) (ho:okT t=true) (hn:t.n≤9223372036854775807):0<(textT t).length∧∀ rest c,(textT t++rest).head?=some c→isBl c=false∧c≠35:=by
 have h:=tok_text t [] ho hn (fun c hc=>by cases hc);have h1:=(tokR_ok h).1;have h2:=tok_head h;refine⟨h1,fun rest c hc=>h2 c ?_⟩;rw[List.append_nil]
 cases htt:textT t with
 | nil=>rw[htt] at h1;simp at h1
 | cons d r=>rw[htt,List.cons_append] at hc;exact hc
theorem gap_text (t:Tok) (rest:Bs) (ho:okT t=true) (hn:t.n≤9223372036854775807):gap false (textT t++rest)=0:=gap_zero _ ((text_ne t ho hn).2 rest)
theorem goT_join (S:Bs):∀ (ts:List Tok) (k:Nat) (acc:List Tok),(∀ t∈ts,okT t=true∧t.n≤9223372036854775807)→S.drop k=joinT ts→∃ out,goT S k acc=(some out,0,0)∧noPl out=noPl acc++noPl ts
 | [],k,acc,_,h=>by
   refine⟨acc,goT_end acc ?_,by simp[noPl]⟩;have:=congrArg List.length h;rw[List.length_drop] at this;simp[joinT] at this;omega
 | t::r,k,acc,ha,h=>by
   obtain⟨ho,hn⟩:=ha t (by simp);obtain⟨hpos,_⟩:=text_ne t ho hn;have hj:joinT (t::r)=textT t++r.flatMap fun t=>32::textT t:=rfl
   rw[hj] at h
   have hb:Behind (r.flatMap fun t=>32::textT t):=by
    intro c hc
    cases r with
    | nil=>cases hc
    | cons x r=>rw[List.flatMap_cons,List.cons_append] at hc;injection hc with hc;exact hc.symm
   have h1:=tok_text t _ ho hn hb;rw[←h] at h1;have hlen:=congrArg List.length h;rw[List.length_drop,List.length_append] at hlen;have hk:k<S.length:=by omega
   have hd:S.drop (k+(textT t).length)=r.flatMap fun t=>32::textT t:=by
    rw[←List.drop_drop,h,List.drop_left' rfl]
   rw[goT_ok acc hk h1];have ha2:∀ t∈r,okT t=true∧t.n≤9223372036854775807:=fun x hx=>ha x (by simp[hx])
   have hnp:noPl (acc++[withPl (withPl t 0) k])++noPl r=noPl acc++noPl (t::r):=by
    rw[noPl_append,noPl_one,List.append_assoc];rfl
   cases r with
   | nil=>
     have hbe:behind S (k+(textT t).length)=k+(textT t).length:=by unfold behind;rw[hd];rfl
     rw[hbe];obtain⟨out,o1,o2⟩:=goT_join S [] (k+(textT t).length) (acc++[withPl (withPl t 0) k]) (by simp) (by rw[hd];rfl);exact⟨out,o1,by rw[o2,hnp]⟩
   | cons x r=>
     obtain⟨xo,xn⟩:=ha2 x (by simp);have hd2:S.drop (k+(textT t).length)=32::joinT (x::r):=by rw[hd];rfl
     have hd3:S.drop (k+(textT t).length+1)=joinT (x::r):=by rw[←List.drop_drop,hd2];rfl
     have hbe:behind S (k+(textT t).length)=k+(textT t).length+1:=by
      unfold behind;have hg:gap false (joinT (x::r))=0:=gap_text x _ xo xn;rw[hd2,gap_false,if_pos (by decide),hg]
     rw[hbe];obtain⟨out,o1,o2⟩:=goT_join S (x::r) (k+(textT t).length+1) (acc++[withPl (withPl t 0) k]) ha2 hd3;exact⟨out,o1,by rw[o2,hnp]⟩
theorem scan_join (ts:List Tok) (ha:∀ t∈ts,okT t=true∧t.n≤9223372036854775807) (hl:(joinT ts).length≤2000):∃ out,scan (joinT ts)=(some out,0,0)∧noPl out=noPl ts:=by
 unfold scan;rw[if_neg (by omega)]
 have hbe:behind (joinT ts) 0=0:=by
  unfold behind
  cases ts with
  | nil=>rfl
  | cons t r=>
    obtain⟨ho,hn⟩:=ha t (by simp);rw[List.drop_zero];have:gap false (joinT (t::r))=0:=gap_text t _ ho hn;rw[this]
 rw[hbe];obtain⟨out,o1,o2⟩:=goT_join (joinT ts) ts 0 [] ha (List.drop_zero);exact⟨out,o1,by rw[o2];rfl⟩
def candT (t:Tok):Bs:=if t.kind=1∨t.kind=4 then t.word else if t.kind=2 then (if 0≤t.n then Lib.itoa t.n else []) else if t.kind=3 then (if may false t.parts then print t.parts else []) else if t.kind=5 then 45::t.word else if t.kind=6 then 36::t.word else []
theorem cand_ok {t:Tok} (ho:okT t=true):candT t=textT t:=by
 unfold candT;by_cases k2:t.kind=2
 ·have h:=ho
  unfold okT at h;rw[if_pos k2] at h;simp only[Bool.and_eq_true,decide_eq_true_eq] at h;rw[if_neg (by omega),if_pos k2,if_pos h.1.2];unfold textT;rw[if_pos k2]
 ·by_cases k3:t.kind=3
  ·have h:=ho
   unfold okT at h;rw[if_neg k2,if_pos k3] at h;simp only[Bool.and_eq_true] at h;rw[if_neg (by omega),if_neg k2,if_pos k3,if_pos h.2,textT_3 k3]
  ·obtain⟨_,_,hm⟩:=okT_kinds ho k2 k3
   by_cases k5:t.kind=5
   ·rw[if_neg (by omega),if_neg k2,if_neg k3,if_pos k5,textT_5 k5]
   ·by_cases k6:t.kind=6
    ·rw[if_neg (by omega),if_neg k2,if_neg k3,if_neg k5,if_pos k6,textT_6 k6]
    ·rw[textT_x k2 k3 k5 k6]
     by_cases k1:t.kind=1∨t.kind=4
     ·rw[if_pos k1]
     ·exfalso
      unfold mayW at hm;rw[if_neg (fun e=>k1 (.inl e)),if_neg (fun e=>k1 (.inr e)),if_neg k5,if_neg k6] at hm
      cases hm
theorem eqT_eq {a b:Tok} (h:eqT a b=true):a=b:=by
 obtain⟨k,w,n,ps,p⟩:=a;obtain⟨k',w',n',ps',p'⟩:=b;unfold eqT at h;simp only[Bool.and_eq_true,decide_eq_true_eq] at h;obtain⟨⟨⟨⟨h1,h2⟩,h3⟩,h4⟩,h5⟩:=h;subst h1 h2 h3 h4 h5;rfl
theorem scan_text (t:Tok) (ho:okT t=true) (hn:t.n≤9223372036854775807) (hl:(textT t).length≤2000):scan (textT t)=(some [withPl t 0],0,0):=by
 obtain⟨hpos,_⟩:=text_ne t ho hn;have h1:=tok_text t [] ho hn (fun c hc=>by cases hc);have hg:=gap_text t [] ho hn;rw[List.append_nil] at h1 hg;unfold scan;have hb:behind (textT t) 0=0:=by unfold behind;rw[List.drop_zero,hg]
 have hb2:behind (textT t) (0+(textT t).length)=(textT t).length:=by
  unfold behind;rw[Nat.zero_add,List.drop_length]
  rfl
 rw[if_neg (by omega),hb,goT_ok [] (k:=0) hpos (by rw[List.drop_zero];exact h1),hb2,goT_end _ (Nat.lt_irrefl _)]
 rfl
theorem cand_no {t:Tok} (ho:okT t=false) (hl:(candT t).length≤2000):(∃ q e,scan (candT t)=(none,q,e)∧(e=1∨e=3))∨∃ out,scan (candT t)=(some out,0,0)∧(∀ x∈out,Read1 (candT t).length x)∧out.length≤2000∧∀ x,out=[x]→eqT x (withPl t 0)=false:=by
 rcases scan_cases (candT t) with ⟨q,e,h1,h2,h3⟩ | ⟨out,h1,h2,h3,h4⟩
 ·exact .inl ⟨q,e,h1,by have:=h3 hl;omega⟩
 ·refine .inr ⟨out,h1,h2,by omega,fun x hx=>?_⟩
  rw[Bool.eq_false_iff];intro he;have:=eqT_eq he;have hr:=(h2 x (by rw[hx];simp)).ok;rw[this,okT_pl,ho] at hr
  cases hr
def ReadT (w:World) (ts:List Tok) (q:Nat) (x:Int) (e:Ending) (w':World):Prop:=
 ∃ A c,e= .returned (.tuple #[.slice A ts.length c,.int .i64 q,.int .i64 x])∧RdT w'.heap.size w' A ts.length ts∧Below w.heap.size w w'
theorem postT_read {w w':World} {e:Ending} {o:Option (List Tok)} {q:Nat} {x:Int} {ts:List Tok} (ho:o.getD []=ts) (h:PostT w (o,q,x) e w'):ReadT w ts q x e w':=by
 obtain⟨v,l,he,ht,hl⟩:=h;dsimp only at hl;rw[ho] at hl;obtain⟨A,c,rfl,hr⟩:=rdt_of_own ht;have e1:l.length=ts.length:=by rw[←hl,List.length_map]
 rw[hl,e1] at hr;rw[e1] at he;exact⟨A,c,he,hr,ht.below⟩
theorem scan_read (s:ByteArray) (hs:s.size≤4000) (o:Option (List Tok)) (q:Nat) (x:Int) (ts:List Tok) (ho:o.getD []=ts) (h:scan s.data.toList=(o,q,x)) (w:World) (hG:Given w):Calls Tryz.prog 10 #[.string s] w (ReadT w ts q x):=
 (scan_any s hs w hG).mono fun e w' hp=>postT_read ho (by rw[←h];exact hp)
def L0:List Tok:=[⟨6,[97],0,[],0⟩,⟨4,[45],0,[],2⟩,⟨2,[],1,[],3⟩]
def S0:ByteArray:=⟨#[36,97,45,49,32,35,32,120]⟩
def S1:ByteArray:=⟨#[97,32,45,120]⟩
theorem scan0:scan S0.data.toList=(some L0,0,0):=by
 have h0:behind S0.data.toList 0=0:=by decide
 have h1:tokR (S0.data.toList.drop 0)= .ok ⟨6,[97],0,[],0⟩ 2:=by kernel_rfl
 have b1:behind S0.data.toList (0+2)=2:=by decide
 have h2:tokR (S0.data.toList.drop 2)= .ok ⟨4,[45],0,[],0⟩ 1:=by kernel_rfl
 have b2:behind S0.data.toList (2+1)=3:=by decide
 have h3:tokR (S0.data.toList.drop 3)= .ok ⟨2,[],1,[],0⟩ 1:=by kernel_rfl
 have b3:behind S0.data.toList (3+1)=8:=by decide
 unfold scan;rw[if_neg (by decide),h0,goT_ok _ (by decide) h1,b1,goT_ok _ (by decide) h2,b2,goT_ok _ (by decide) h3,b3,goT_end _ (by decide)]
 rfl
theorem scan1:scan S1.data.toList=(none,2,1):=by
 have h0:behind S1.data.toList 0=0:=by decide
 have h1:tokR (S1.data.toList.drop 0)= .ok ⟨1,[97],0,[],0⟩ 1:=by kernel_rfl
 have b1:behind S1.data.toList (0+1)=2:=by decide
 have h2:tokR (S1.data.toList.drop 2)= .bad 0 1:=by kernel_rfl
 unfold scan;rw[if_neg (by decide),h0,goT_ok _ (by decide) h1,b1,goT_bad _ (by decide) h2]
theorem itoa1:Lib.itoa 1=[49]:=by
 unfold Lib.itoa;rw[if_neg (by decide)];exact dec_small (by decide)
theorem join0:joinB L0=⟨#[36,97,32,45,32,49]⟩∧joinE L0=0:=by
 have hj:joinT L0=[36,97,32,45,32,49]:=by
  show 36::[97]++((32::[45])++((32::Lib.itoa 1)++[]))=_;rw[itoa1];rfl
 have ho:L0.all okT=true:=by decide
 unfold joinB joinE;rw[hj,ho,if_pos ⟨rfl,by decide⟩,if_pos rfl,if_neg (by decide)];exact⟨rfl,rfl⟩
theorem fit0:∀ t∈L0,FitT t:=by
 intro t ht;unfold L0 at ht;simp only[List.mem_cons,List.not_mem_nil,or_false] at ht
 rcases ht with rfl | rfl | rfl
 all_goals exact⟨by decide,by decide,by decide,by simp,by simp,by decide⟩
theorem first0T (w:World) (hG:Given w):Calls Tryz.prog 10 #[.string ⟨#[36,97,45,49,32,35,32,120]⟩] w fun e w'=>
  ∃ ad c,e= .returned (.tuple #[.slice (some ad) 3 c,.int .i64 0,.int .i64 0])∧RdT w'.heap.size w' (some ad) 3 L0∧Below w.heap.size w w':=
 (scan_read S0 (by decide) (some L0) 0 0 L0 rfl scan0 w hG).mono fun e w' ⟨A,c,he,hr,hb⟩=>by
  obtain⟨ad,rfl,_⟩:=hr.2 (by decide);exact⟨ad,c,he,hr,hb⟩
theorem second0T (ad:Addr) (c:Nat) (w:World) (h:RdT w.heap.size w (some ad) 3 L0) (hG:Given w):Calls Tryz.prog 6 #[.slice (some ad) 3 c] w fun e w'=>e= .returned (.tuple #[.string ⟨#[36,97,32,45,32,49]⟩,.int .i64 0])∧Below w.heap.size w w':=by
 have:=join_any (some ad) 3 c L0 w h (by decide) fit0 hG;rw[join0.1,join0.2] at this;exact this
theorem third0T (w:World) (hG:Given w):Calls Tryz.prog 10 #[.string ⟨#[97,32,45,120]⟩] w fun e w'=>∃ A c,e= .returned (.tuple #[.slice A 0 c,.int .i64 2,.int .i64 1])∧Below w.heap.size w w':=
 (scan_read S1 (by decide) none 2 1 [] rfl scan1 w hG).mono fun e w' ⟨A,c,he,hr,hb⟩=>⟨A,c,he,hb⟩
theorem cell0 {B:Nat} {w:World} {ad:Addr} (h:RdT B w (some ad) 3 L0):w.cell? ⟨ad.block,ad.off+12,none⟩=some (.int .i64 1):=by
 obtain⟨ad',e,_,hc⟩:=h.2 (by decide);injection e with e
 subst e;obtain⟨A',c',h5,_⟩:=hc 2 ⟨2,[],1,[],3⟩ rfl;have:=h5.2.2.1;have ea:(ad.add (2 * 5))=⟨ad.block,ad.off+10,none⟩:=by unfold Addr.add;rw[if_neg (by decide)]
 rw[ea] at this;exact this
theorem awakeT_any (w:World) (hG:Given w):Calls Tryz.prog 4 #[] w fun e w'=>e= .returned (.bool true)∧Below w.heap.size w w':=by
 have HG:=Lib.hid hG;have K1:=Lib.hid (first0T w hG);clear hG;go_enter Tryz.func4,Tryz.ntmps4;go_wp2_with (first | (go_at_call 10;((with_reducible refine(K1.out).mono ?_));rintro e w1 ⟨ad,c,rfl,hr,hb1⟩;have R1:=Lib.hid hr;have HB1:=Lib.hid hb1;clear hr hb1) | (go_at_call 6;((with_reducible refine(second0T ad c _ R1.out (HG.out.below HB1.out)).mono ?_));rintro e w2 ⟨rfl,hb2⟩;have HB2:=Lib.hid (HB1.out.trans (hb2.mono HB1.out.size));have R2:=Lib.hid (R1.out.next hb2);clear hb2) | (go_at_call 10;((with_reducible refine(third0T _ (HG.out.below HB2.out)).mono ?_));rintro e w3 ⟨A3,c3,rfl,hb3⟩;have HB3:=Lib.hid (HB2.out.trans (hb3.mono HB2.out.size));have hcell:=cell0 (R2.out.next hb3);clear hb3));go_ret;exact⟨rfl,HB3.out⟩
end Go.Proofs.YtmmmleoeokaaeaaGreatDoor
