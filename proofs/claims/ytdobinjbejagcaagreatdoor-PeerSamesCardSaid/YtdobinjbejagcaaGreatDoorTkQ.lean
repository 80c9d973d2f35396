import Derived.Test.YtdobinjbejagcaaGreatDoorTkO
import Derived.Test.YtdobinjbejagcaaGreatDoorAByte
import Derived.Test.YtdobinjbejagcaaGreatDoorTkD
namespace Go.Proofs.YtdobinjbejagcaaGreatDoor
open Go Go.RowKit
set_option maxHeartbeats 1000000
theorem neq_any (x y x' y':ByteArray) (b:Bool) (hb:b= !(x.toList==x'.toList && y.toList==y'.toList)) (w:World):(binOp .neq 88 (.agg #[.string x,.string y]) (.agg #[.string x',.string y'])).run Tryz.prog w= .ok (.bool b) w:=by
 have hf:=fields33;rw[run_neq_struct,run_equalIn_struct w 9999 88 _ _ under33 held33,hb];generalize (Tryz.prog.fieldsOf 88).toList=L at hf ⊢
 rcases L with _ | ⟨f,_ | ⟨g,_ | ⟨h,L⟩⟩⟩
 ·simp at hf
 ·simp at hf
 ·simp only[List.map_cons,List.map_nil,List.cons.injEq,Prod.mk.injEq,and_true] at hf
  obtain⟨⟨f1,f2,f3⟩,⟨g1,g2,g3⟩⟩:=hf;by_cases e1:(x.toList==x'.toList)=true
  ·by_cases e2:(y.toList==y'.toList)=true
   ·simp[Op.eqFields,f1,f2,f3,g1,g2,g3,go_sem,run_equalIn_string _ 9998 9 _ _ Tryz.underlying9,e1,e2]
   ·simp[Op.eqFields,f1,f2,f3,g1,g2,g3,go_sem,run_equalIn_string _ 9998 9 _ _ Tryz.underlying9,e1,e2]
  ·simp[Op.eqFields,f1,f2,f3,g1,g2,g3,go_sem,run_equalIn_string _ 9998 9 _ _ Tryz.underlying9,e1]
 ·simp at hf
theorem neq_pt (p q:Pt) (w:World):(binOp .neq 88 (.agg #[.string ⟨p.1.toArray⟩,.string ⟨p.2.toArray⟩]) (.agg #[.string ⟨q.1.toArray⟩,.string ⟨q.2.toArray⟩])).run Tryz.prog w= .ok (.bool (!decide (p=q))) w:=by
 refine neq_any _ _ _ _ _ ?_ w;rw[toList_data,toList_data,toList_data,toList_data]
 congr 1
 rw[Bool.eq_iff_iff];simp[Prod.ext_iff]
theorem rsame_any (A A':Option Addr) (n n' c c':Nat) (ps qs:List Pt) (w:World) (h:Rd w.heap.size w A n ps) (h':Rd w.heap.size w A' n' qs) (hmax:n≤1000000):
  Calls Tryz.prog 76 #[.slice A n c,.slice A' n' c'] w fun e w'=>e= .returned (.bool (decide (ps=qs)))∧Below w.heap.size w w':=by
 by_cases hnn:n=n'
 ·subst hnn
  obtain⟨v,hv⟩:∃ v,v=decide (ps=qs):=⟨_,rfl⟩;rw[←hv];have HV:=Lib.hid hv;have HN:=Lib.hid h.1;have HN':=Lib.hid h'.1;have HR:=Lib.hid h;have HR':=Lib.hid h';clear h h' hv;go_enter Tryz.func76,Tryz.ntmps76;go_wp2
  go_loopw [5] (fun i wr=>∃ (k m:Nat),k≤n∧i= .int .i64 k∧ps.take k=qs.take k∧wr=w.drewN m) (fun i _=>n - (intOf i).toNat)
  case atStart=>exact⟨0,0,by omega,rfl,rfl,rfl⟩
  case round=>
   obtain⟨k,m,hk,rfl,htk,rfl⟩:=hrel;have HT:=Lib.hid htk;clear htk;by_cases a:k<n
   ·obtain⟨ad,rfl,hr⟩:=HR.out.2 (by omega)
    obtain⟨ad',rfl,hr'⟩:=HR'.out.2 (by omega);obtain⟨p,hp⟩:∃ p,ps[k]?=some p:=⟨_,List.getElem?_eq_getElem (by have:=HN.out;omega)⟩;obtain⟨q,hq⟩:∃ q,qs[k]?=some q:=⟨_,List.getElem?_eq_getElem (by have:=HN'.out;omega)⟩;obtain⟨c0,c1⟩:=hr.at_ hp
    obtain⟨d0,d1⟩:=hr'.at_ hq
    have hcmp:=fun W:World=>neq_pt p q W
    by_cases e:p=q
    ·have HX:Hid (ps.take (k+1)=qs.take (k+1)):=by
      apply Lib.hid;obtain⟨i1,i2⟩:=List.getElem?_eq_some_iff.1 hp;obtain⟨j1,j2⟩:=List.getElem?_eq_some_iff.1 hq;rw[List.take_succ_eq_append_getElem i1,List.take_succ_eq_append_getElem j1,HT.out,i2,j2,e]
     rw[decide_eq_true e] at hcmp;simp only[Bool.not_true] at hcmp;clear hr hr' hp hq e;go_wp2;go_quiet (fail);go_wp2
     go_roundw
     case rel=>exact⟨k+1,_,by omega,by go_num,HX.out,rfl⟩
     case measure=>simp[intOf];omega
    ·have HX:Hid (v=false):=by
      apply Lib.hid;rw[HV.out,decide_eq_false_iff_not];rintro rfl;rw[hp] at hq;injection hq with hq;exact e hq
     rw[decide_eq_false e] at hcmp;simp only[Bool.not_false] at hcmp;clear hr hr' hp hq e;go_wp2;go_quiet (fail);go_wp2;go_ret;exact⟨ret_bool HX.out.symm,below_drewN (below_drewN (Below.refl _ _) _) _⟩
   ·have HX:Hid (v=true):=by
     apply Lib.hid;have h1:=HT.out;rw[List.take_of_length_le (by have:=HN.out;omega),List.take_of_length_le (by have:=HN'.out;omega)] at h1;rw[HV.out,decide_eq_true_iff];exact h1
    go_wp2;go_ret;exact⟨ret_bool HX.out.symm,below_drewN (Below.refl _ _) m⟩
 ·have hne:decide (ps=qs)=false:=by
   rw[decide_eq_false_iff_not];rintro rfl;exact hnn (h.1.trans h'.1.symm)
  rw[hne];have b1:((n:Int) != (n':Int))=true:=by simp;omega
  have b2:(n != n')=true:=by simpa using hnn
  clear h h' hne hnn;go_enter Tryz.func76,Tryz.ntmps76;go_wp2;go_ret;exact⟨rfl,Below.refl _ _⟩
def eqT (a b:Tok):Bool:=decide (a.kind=b.kind) && decide (a.word=b.word) && decide (a.n=b.n) && decide (a.pl=b.pl) && decide (a.parts=b.parts)
theorem eqT_self (a:Tok):eqT a a=true:=by simp[eqT]
theorem word_eq {x y:Bs} {X Y:ByteArray} (hX:X=⟨x.toArray⟩) (hY:Y=⟨y.toArray⟩):(X.toList==Y.toList)=decide (x=y):=by
 rw[toList_data,toList_data,hX,hY,Bool.eq_iff_iff];simp
theorem tsame_any (a b:Tok) (A A':Option Addr) (c c':Nat) (w:World) (h:Rd w.heap.size w A a.parts.length a.parts) (h':Rd w.heap.size w A' b.parts.length b.parts) (hmax:a.parts.length≤1000000):
  Calls Tryz.prog 51 #[tokA a A c,tokA b A' c'] w fun e w'=>e= .returned (.bool (eqT a b))∧Below w.heap.size w w':=by
 obtain⟨v,hv⟩:∃ v,v=eqT a b:=⟨_,rfl⟩;rw[←hv];unfold eqT at hv;have KS:Hid (∀ w',Below w.heap.size w w'→Calls Tryz.prog 76 #[.slice A a.parts.length c,.slice A' b.parts.length c'] w' fun e w2=>e= .returned (.bool (decide (a.parts=b.parts)))∧Below w'.heap.size w' w2):=Lib.hid fun w' hb=>rsame_any A A' _ _ c c' a.parts b.parts w' (h.onto hb) (h'.onto hb) hmax
 unfold tokA;obtain⟨X,hX⟩:∃ X:ByteArray,X=⟨a.word.toArray⟩:=⟨_,rfl⟩;obtain⟨Y,hY⟩:∃ Y:ByteArray,Y=⟨b.word.toArray⟩:=⟨_,rfl⟩;have hxy:=word_eq hX hY;rw[←hX,←hY];generalize decide (a.parts=b.parts)=y at KS hv;generalize a.parts.length=m at KS ⊢;generalize b.parts.length=m' at KS ⊢;generalize decide (a.word=b.word)=z at hxy hv;clear h h' hmax hX hY;by_cases e1:a.kind=b.kind
 ·have q1:(a.kind==b.kind)=true:=by simpa using e1
  rw[decide_eq_true e1,Bool.true_and] at hv
  cases z
  ·have HV:Hid (v=false):=Lib.hid (by rw[hv];rfl)
   clear hv e1;go_enter Tryz.func51,Tryz.ntmps51;go_wp2;go_ret;exact⟨ret_bool HV.out.symm,((Below.refl _ _).alloc (Nat.le_refl _) _).alloc (by simp) _⟩
  ·rw[Bool.true_and] at hv
   by_cases e2:a.n=b.n
   ·have q2:(a.n==b.n)=true:=by simpa using e2
    rw[decide_eq_true e2,Bool.true_and] at hv;by_cases e3:a.pl=b.pl
    ·have q3:(a.pl==b.pl)=true:=by simpa using e3
     rw[decide_eq_true e3,Bool.true_and] at hv;have HV:=Lib.hid hv;clear hv e1 e2 e3;go_enter Tryz.func51,Tryz.ntmps51;go_wp2_with (go_at_call 76;((with_reducible refine(KS.out _ (((Below.refl _ _).alloc (Nat.le_refl _) _).alloc (by simp) _)).mono ?_));rintro e w' ⟨rfl,hb⟩);go_ret;exact⟨ret_bool HV.out.symm,(((Below.refl _ _).alloc (Nat.le_refl _) _).alloc (by simp) _).trans (hb.mono (by simp;omega))⟩
    ·have q3:(a.pl==b.pl)=false:=by simpa using e3
     have HV:Hid (v=false):=Lib.hid (by rw[hv,decide_eq_false e3];rfl);clear hv e1 e2 e3;go_enter Tryz.func51,Tryz.ntmps51;go_wp2;go_ret;exact⟨ret_bool HV.out.symm,((Below.refl _ _).alloc (Nat.le_refl _) _).alloc (by simp) _⟩
   ·have q2:(a.n==b.n)=false:=by simpa using e2
    have HV:Hid (v=false):=Lib.hid (by rw[hv,decide_eq_false e2];rfl);clear hv e1 e2;go_enter Tryz.func51,Tryz.ntmps51;go_wp2;go_ret;exact⟨ret_bool HV.out.symm,((Below.refl _ _).alloc (Nat.le_refl _) _).alloc (by simp) _⟩
 ·have q1:(a.kind==b.kind)=false:=by simpa using e1
  have HV:Hid (v=false):=Lib.hid (by rw[hv,decide_eq_false e1];rfl);clear hv e1;go_enter Tryz.func51,Tryz.ntmps51;go_wp2;go_ret;exact⟨ret_bool HV.out.symm,((Below.refl _ _).alloc (Nat.le_refl _) _).alloc (by simp) _⟩
theorem tk_all:∀ (k:Nat) (l:Bs),tk k l=l.length→l.all isIn=true
 | _,[],_=>rfl
 | 0,c::r,h=>by simp[tk] at h
 | k+1,c::r,h=>by
   rw[tk_cons] at h
   split at h
   ·rename_i hc
    rw[List.all_cons,hc,tk_all k r (by rw[List.length_cons] at h;omega)];rfl
   ·rw[List.length_cons] at h;omega
theorem dig_in (c:UInt8) (h:isDig c=true):isIn c=true:=by unfold isIn;rw[h];simp
theorem name_all {w:Bs} (h:isName w=true):w≠[]∧w.all isIn=true:=by
 unfold isName at h;rw[Bool.and_eq_true] at h;obtain⟨h1,h2⟩:=h;have h2:=of_decide_eq_true h2
 cases w with
 | nil=>simp at h1
 | cons c r=>
   refine⟨by simp,?_⟩;rw[nameLen_cons,List.length_cons] at h2
   split at h2
   ·rename_i hd
    have:r=[]:=List.eq_nil_of_length_eq_zero (by omega);subst this;simp[dig_in c hd]
   ·split at h2
    ·rename_i hl
     rw[List.all_cons,low_in c hl,tk_all 7 r (by omega)];rfl
    ·omega
def Behind (rest:Bs):Prop:=∀ c,rest.head?=some c→c=32
theorem behind_stop {rest:Bs} (h:Behind rest) (p:UInt8→Bool) (hp:p 32=false):∀ c,rest.head?=some c→p c=false:=fun c hc=>by rw[h c hc];exact hp
theorem numR_dec (u:Nat) (hu:u<9223372036854775808):numR (Lib.decDigits u)=((u:Int),0):=by
 obtain⟨h1,h2,h3,h4⟩:=dec_facts u;unfold numR
 have hno:¬ ((Lib.decDigits u).head?=some 48∧¬ (Lib.decDigits u).length=1):=by
  rintro⟨a,b⟩;by_cases h0:u=0
  ·subst h0
   rw[dec_small (by decide)] at b;exact b rfl
  ·exact h4 h0 a
 rw[if_neg hno,h2,if_pos hu]
theorem digB_dig (c:UInt8) (h:digB c=true):isDig c=true:=by
 have:isDig c=digB c:=by
  unfold isDig digB;rw[Bool.eq_iff_iff];simp;omega
 rw[this];exact h
theorem okT_kinds {t:Tok} (h:okT t=true) (h2:¬ t.kind=2) (h3:¬ t.kind=3):t.n=0∧t.parts=[]∧mayW t.kind t.word=true:=by
 unfold okT at h;rw[if_neg h2,if_neg h3] at h;simp only[Bool.and_eq_true,decide_eq_true_eq,List.isEmpty_iff] at h;exact⟨h.1.2,h.2,h.1.1⟩
theorem with0 (t:Tok) (k:Int) (w:Bs) (n:Int) (ps:List Pt) (h1:t.kind=k) (h2:t.word=w) (h3:t.n=n) (h4:t.parts=ps):withPl t 0=⟨k,w,n,ps,0⟩:=by subst h1 h2 h3 h4;rfl
theorem wordR_yes {k:Int} {w:Bs} (h:mayW k w=true) (q:Nat):wordR k w q= .ok ⟨k,w,0,[],0⟩ q:=by unfold wordR;rw[if_pos h]
theorem tok_text (t:Tok) (rest:Bs) (ho:okT t=true) (hn:t.n≤9223372036854775807) (hb:Behind rest):tokR (textT t++rest)= .ok (withPl t 0) (textT t).length:=by
 by_cases k2:t.kind=2
 ·have h:=ho
  unfold okT at h;rw[if_pos k2] at h;simp only[Bool.and_eq_true,decide_eq_true_eq,List.isEmpty_iff] at h;obtain⟨⟨h1,h2⟩,h3⟩:=h
  have e:textT t=Lib.decDigits t.n.toNat:=by
   unfold textT Lib.itoa;rw[if_pos k2,if_neg (by omega)]
  have hu:t.n.toNat<9223372036854775808:=by omega
  obtain⟨d1,d2,d3,_⟩:=dec_facts t.n.toNat;have hr:=numR_dec _ hu;rw[e];generalize Lib.decDigits t.n.toNat=l at d1 d3 hr ⊢
  cases l with
  | nil=>exact absurd rfl d3
  | cons c r=>
    have hall:(c::r).all isDig=true:=by
     rw[List.all_eq_true] at d1 ⊢;exact fun x hx=>digB_dig x (d1 x hx)
    have hd:isDig c=true:=by rw[List.all_cons,Bool.and_eq_true] at hall;exact hall.1
    have hrun:=runL_stop isDig (c::r) rest hall (behind_stop hb isDig (by decide));have h34:c≠34:=by rintro rfl;revert hd;decide
    have hx:tokR (c::r++rest)=numT (c::r++rest):=by
     rw[List.cons_append];unfold tokR;dsimp only;rw[if_neg h34,if_pos hd]
    rw[hx];unfold numT;rw[hrun,List.take_left' rfl,hr,if_pos rfl];rw[with0 t 2 [] t.n.toNat [] k2 h1 (by omega) h3]
 ·by_cases k3:t.kind=3
  ·have h:=ho
   unfold okT at h;rw[if_neg k2,if_pos k3] at h;simp only[Bool.and_eq_true,decide_eq_true_eq,List.isEmpty_iff] at h;obtain⟨⟨h1,h2⟩,h3⟩:=h;have e:textT t=print t.parts:=textT_3 k3;have hp:=parse_print t.parts rest h3;rw[e]
   have hx:tokR (print t.parts++rest)=textR (print t.parts++rest):=by
    unfold print;rw[List.cons_append];unfold tokR;dsimp only;rw[if_pos rfl]
   rw[hx];unfold textR;rw[hp,with0 t 3 [] 0 t.parts k3 h1 h2 rfl]
  ·obtain⟨n0,p0,hm⟩:=okT_kinds ho k2 k3
   by_cases k5:t.kind=5
   ·rw[textT_5 k5,List.cons_append]
    rw[k5,mayW_5] at hm
    have hx:∀ w:Bs,isFlagL w=true→lowHead w=true∧w.all isLow=true:=by
     intro w hw;unfold isFlagL at hw
     rcases of_decide_eq_true hw with h | h | h | h <;> (subst h;decide)
    obtain⟨f1,f2⟩:=hx _ hm;have hrun:=runL_stop isLow t.word rest f2 (behind_stop hb isLow (by decide))
    have hlow:lowHead (t.word++rest)=true:=by
     generalize t.word=w at f1
     cases w with
     | nil=>cases f1
     | cons c r=>exact f1
    unfold tokR;dsimp only;rw[if_neg (by decide),if_neg (by decide),if_neg (by decide),if_neg (by decide),if_pos ⟨rfl,hlow⟩,hrun,List.take_left' rfl,wordR_yes (by rw[mayW_5];exact hm),with0 t 5 t.word 0 [] k5 rfl n0 p0]
    rfl
   ·by_cases k6:t.kind=6
    ·rw[textT_6 k6,List.cons_append]
     rw[k6,mayW_6] at hm;obtain⟨_,f2⟩:=name_all hm;have hrun:=runL_stop isIn t.word rest f2 (behind_stop hb isIn (by decide));unfold tokR;dsimp only;rw[if_neg (by decide),if_neg (by decide),if_neg (by decide),if_pos rfl,hrun,List.take_left' rfl,wordR_yes (by rw[mayW_6];exact hm),with0 t 6 t.word 0 [] k6 rfl n0 p0]
     rfl
    ·rw[textT_x k2 k3 k5 k6]
     by_cases k1:t.kind=1
     ·rw[k1,mayW_1] at hm
      rw[with0 t 1 t.word 0 [] k1 rfl n0 p0];generalize t.word=w at hm
      cases w with
      | nil=>cases hm
      | cons c r=>
        have hm2:=hm
        change (isLow c && r.all isIn && decide (r.length≤13))=true at hm2
        simp only[Bool.and_eq_true] at hm2;obtain⟨⟨h1,h2⟩,_⟩:=hm2;obtain⟨h34,hd,_,_⟩:=head_low c h1;have hall:(c::r).all isIn=true:=by rw[List.all_cons,low_in c h1,h2];rfl
        have hrun:=runL_stop isIn (c::r) rest hall (behind_stop hb isIn (by decide));rw[List.cons_append] at hrun ⊢;unfold tokR;dsimp only;rw[if_neg h34,if_neg (by rw[hd];decide),if_pos h1,hrun,show (c::(r++rest)).take (c::r).length=c::r from List.take_left' (l₁:=c::r) rfl,wordR_yes (by rw[mayW_1];exact hm)]
     ·by_cases k4:t.kind=4
      ·rw[k4,mayW_4] at hm
       rw[with0 t 4 t.word 0 [] k4 rfl n0 p0];have hs:=sign_cases hm;generalize t.word=w at hs;unfold sgns at hs;simp only[List.mem_cons,List.not_mem_nil,or_false] at hs
       have hrest:rest=[]∨∃ r,rest=32::r:=by
        cases rest with
        | nil=>exact .inl rfl
        | cons c r=>exact .inr ⟨r,by rw[hb c rfl]⟩
       rcases hrest with rfl | ⟨r,rfl⟩
       ·rcases hs with h | h | h | h | h | h | h | h | h | h | h | h | h | h | h | h | h | h <;> (subst h;rfl)
       ·rcases hs with h | h | h | h | h | h | h | h | h | h | h | h | h | h | h | h | h | h <;> (subst h;rfl)
      ·exfalso
       unfold mayW at hm;rw[if_neg k1,if_neg k4,if_neg k5,if_neg k6] at hm
       cases hm
theorem tok_head {l:Bs} {t:Tok} {q:Nat} (h:tokR l= .ok t q):∀ c,l.head?=some c→isBl c=false∧c≠35:=by
 intro c hc
 cases l with
 | nil=>cases hc
 | cons d r=>
   injection hc with hc
   subst hc;by_cases hx:isBl d=false∧d≠35
   ·exact hx
   ·exfalso
    have hb:d=32∨d=9∨d=10∨d=35:=by
     have hy:∀ d:UInt8,¬ (isBl d=false∧d≠35)→d=32∨d=9∨d=10∨d=35:=all256 _ (by decide+kernel);exact hy d hx
    have hs:tokR (d::r)=wordR 4 ((d::r).take (signL (d::r))) (signL (d::r)):=by
     unfold tokR;dsimp only
     rcases hb with h | h | h | h <;> (subst h;rw[if_neg (by decide),if_neg (by decide),if_neg (by decide),if_neg (by decide),if_neg (by rintro⟨h,_⟩;revert h;decide)])
    rw[hs] at h;obtain⟨_,_,hm⟩:=wordR_ok h;rw[mayW_4] at hm;have hl:=sign_len hm;have hc:=sign_cases hm;have hz:∀ x∈sgns,x.head?≠some 32∧x.head?≠some 9∧x.head?≠some 10∧x.head?≠some 35:=by decide
    have hy:=hz _ hc
    have hh:((d::r).take (signL (d::r))).head?=some d:=by
     cases hsl:signL (d::r) with
     | zero=>rw[hsl] at hl;simp at hl
     | succ n=>rfl
    rw[hh] at hy;obtain⟨y1,y2,y3,y4⟩:=hy
    rcases hb with h | h | h | h
    ·exact y1 (by rw[h])
    ·exact y2 (by rw[h])
    ·exact y3 (by rw[h])
    ·exact y4 (by rw[h])
theorem text_ne (t:Tok) (ho:okT t=true) (hn:t.n≤9223372036854775807):0<(textT t).length∧∀ rest c,(textT t++rest).head?=some c→isBl c=false∧c≠35:=by
 have h:=tok_text t [] ho hn (fun c hc=>by cases hc);have h1:=(tokR_ok h).1;have h2:=tok_head h;refine⟨h1,fun rest c hc=>h2 c ?_⟩;rw[List.append_nil]
 cases htt:textT t with
 | nil=>rw[htt] at h1;simp at h1
 | cons d r=>rw[htt,List.cons_append] at hc;exact hc
theorem gap_text (t:Tok) (rest:Bs) (ho:okT t=true) (hn:t.n≤9223372036854775807):gap false (textT t++rest)=0:=gap_zero _ ((text_ne t ho hn).2 rest)
theorem goT_join (S:Bs):∀ (ts:List Tok) (k:Nat) (acc:List Tok),(∀ t∈ts,okT t=true∧t.n≤9223372036854775807)→S.drop k=joinT ts→∃ out,goT S k acc=(some out,0,0)∧noPl out=noPl acc++noPl ts
 | [],k,acc,_,h=>by
   refine⟨acc,goT_end acc ?_,by simp[noPl]⟩;have:=congrArg List.length h;rw[List.length_drop] at this;simp[joinT] at this;omega
 | t::r,k,acc,ha,h=>by
   obtain⟨ho,hn⟩:=ha t (by simp);obtain⟨hpos,_⟩:=text_ne t ho hn;have hj:joinT (t::r)=textT t++r.flatMap fun t=>32::textT t:=rfl
   rw[hj] at h
   have hb:Behind (r.flatMap fun t=>32::textT t):=by
    intro c hc
    cases r with
    | nil=>cases hc
    | cons x r=>rw[List.flatMap_cons,List.cons_append] at hc;injection hc with hc;exact hc.symm
   have h1:=tok_text t _ ho hn hb;rw[←h] at h1;have hlen:=congrArg List.length h;rw[List.length_drop,List.length_append] at hlen;have hk:k<S.length:=by omega
   have hd:S.drop (k+(textT t).length)=r.flatMap fun t=>32::textT t:=by
    rw[←List.drop_drop,h,List.drop_left' rfl]
   rw[goT_ok acc hk h1];have ha2:∀ t∈r,okT t=true∧t.n≤9223372036854775807:=fun x hx=>ha x (by simp[hx])
   have hnp:noPl (acc++[withPl (withPl t 0) k])++noPl r=noPl acc++noPl (t::r):=by
    rw[noPl_append,noPl_one,List.append_assoc];rfl
   cases r with
   | nil=>
     have hbe:behind S (k+(textT t).length)=k+(textT t).length:=by unfold behind;rw[hd];rfl
     rw[hbe];obtain⟨out,o1,o2⟩:=goT_join S [] (k+(textT t).length) (acc++[withPl (withPl t 0) k]) (by simp) (by rw[hd];rfl);exact⟨out,o1,by rw[o2,hnp]⟩
   | cons x r=>
     obtain⟨xo,xn⟩:=ha2 x (by simp);have hd2:S.drop (k+(textT t).length)=32::joinT (x::r):=by rw[hd];rfl
     have hd3:S.drop (k+(textT t).length+1)=joinT (x::r):=by rw[←List.drop_drop,hd2];rfl
     have hbe:behind S (k+(textT t).length)=k+(textT t).length+1:=by
      unfold behind;have hg:gap false (joinT (x::r))=0:=gap_text x _ xo xn;rw[hd2,gap_false,if_pos (by decide),hg]
     rw[hbe];obtain⟨out,o1,o2⟩:=goT_join S (x::r) (k+(textT t).length+1) (acc++[withPl (withPl t 0) k]) ha2 hd3;exact⟨out,o1,by rw[o2,hnp]⟩
theorem scan_join (ts:List Tok) (ha:∀ t∈ts,okT t=true∧t.n≤9223372036854775807) (hl:(joinT ts).length≤2000):∃ out,scan (joinT ts)=(some out,0,0)∧noPl out=noPl ts:=by
 unfold scan;rw[if_neg (by omega)]
 have hbe:behind (joinT ts) 0=0:=by
  unfold behind
  cases ts with
  | nil=>rfl
  | cons t r=>
    obtain⟨ho,hn⟩:=ha t (by simp);rw[List.drop_zero];have:gap false (joinT (t::r))=0:=gap_text t _ ho hn;rw[this]
 rw[hbe];obtain⟨out,o1,o2⟩:=goT_join (joinT ts) ts 0 [] ha (List.drop_zero);exact⟨out,o1,by rw[o2];rfl⟩
def candT (t:Tok):Bs:=if t.kind=1∨t.kind=4 then t.word else if t.kind=2 then (if 0≤t.n then Lib.itoa t.n else []) else if t.kind=3 then (if may false t.parts then print t.parts else []) else if t.kind=5 then 45::t.word else if t.kind=6 then 36::t.word else []
theorem cand_ok {t:Tok} (ho:okT t=true):candT t=textT t:=by
 unfold candT;by_cases k2:t.kind=2
 ·have h:=ho
  unfold okT at h;rw[if_pos k2] at h;simp only[Bool.and_eq_true,decide_eq_true_eq] at h;rw[if_neg (by omega),if_pos k2,if_pos h.1.2];unfold textT;rw[if_pos k2]
 ·by_cases k3:t.kind=3
  ·have h:=ho
   unfold okT at h;rw[if_neg k2,if_pos k3] at h;simp only[Bool.and_eq_true] at h;rw[if_neg (by omega),if_neg k2,if_pos k3,if_pos h.2,textT_3 k3]
  ·obtain⟨_,_,hm⟩:=okT_kinds ho k2 k3
   by_cases k5:t.kind=5
   ·rw[if_neg (by omega),if_neg k2,if_neg k3,if_pos k5,textT_5 k5]
   ·by_cases k6:t.kind=6
    ·rw[if_neg (by omega),if_neg k2,if_neg k3,if_neg k5,if_pos k6,textT_6 k6]
    ·rw[textT_x k2 k3 k5 k6]
     by_cases k1:t.kind=1∨t.kind=4
     ·rw[if_pos k1]
     ·exfalso
      unfold mayW at hm;rw[if_neg (fun e=>k1 (.inl e)),if_neg (fun e=>k1 (.inr e)),if_neg k5,if_neg k6] at hm
      cases hm
theorem eqT_eq {a b:Tok} (h:eqT a b=true):a=b:=by
 obtain⟨k,w,n,ps,p⟩:=a;obtain⟨k',w',n',ps',p'⟩:=b;unfold eqT at h;simp only[Bool.and_eq_true,decide_eq_true_eq] at h;obtain⟨⟨⟨⟨h1,h2⟩,h3⟩,h4⟩,h5⟩:=h;subst h1 h2 h3 h4 h5;rfl
theorem scan_text (t:Tok) (ho:okT t=true) (hn:t.n≤9223372036854775807) (hl:(textT t).length≤2000):scan (textT t)=(some [withPl t 0],0,0):=by
 obtain⟨hpos,_⟩:=text_ne t ho hn;have h1:=tok_text t [] ho hn (fun c hc=>by cases hc);have hg:=gap_text t [] ho hn;rw[List.append_nil] at h1 hg;unfold scan;have hb:behind (textT t) 0=0:=by unfold behind;rw[List.drop_zero,hg]
 have hb2:behind (textT t) (0+(textT t).length)=(textT t).length:=by
  unfold behind;rw[Nat.zero_add,List.drop_length]
  rfl
 rw[if_neg (by omega),hb,goT_ok [] (k:=0) hpos (by rw[List.drop_zero];exact h1),hb2,goT_end _ (Nat.lt_irrefl _)]
 rfl
theorem cand_no {t:Tok} (ho:okT t=false) (hl:(candT t).length≤2000):(∃ q e,scan (candT t)=(none,q,e)∧(e=1∨e=3))∨∃ out,scan (candT t)=(some out,0,0)∧(∀ x∈out,Read1 (candT t).length x)∧out.length≤2000∧∀ x,out=[x]→eqT x (withPl t 0)=false:=by
 rcases scan_cases (candT t) with ⟨q,e,h1,h2,h3⟩ | ⟨out,h1,h2,h3,h4⟩
 ·exact .inl ⟨q,e,h1,by have:=h3 hl;omega⟩
 ·refine .inr ⟨out,h1,h2,by omega,fun x hx=>?_⟩
  rw[Bool.eq_false_iff];intro he;have:=eqT_eq he;have hr:=(h2 x (by rw[hx];simp)).ok;rw[this,okT_pl,ho] at hr
  cases hr
def ReadT (w:World) (ts:List Tok) (q:Nat) (x:Int) (e:Ending) (w':World):Prop:=
 ∃ A c,e= .returned (.tuple #[.slice A ts.length c,.int .i64 q,.int .i64 x])∧RdT w'.heap.size w' A ts.length ts∧Below w.heap.size w w'
theorem postT_read {w w':World} {e:Ending} {o:Option (List Tok)} {q:Nat} {x:Int} {ts:List Tok} (ho:o.getD []=ts) (h:PostT w (o,q,x) e w'):ReadT w ts q x e w':=by
 obtain⟨v,l,he,ht,hl⟩:=h;dsimp only at hl;rw[ho] at hl;obtain⟨A,c,rfl,hr⟩:=rdt_of_own ht;have e1:l.length=ts.length:=by rw[←hl,List.length_map]
 rw[hl,e1] at hr;rw[e1] at he;exact⟨A,c,he,hr,ht.below⟩
end Go.Proofs.YtdobinjbejagcaaGreatDoor
