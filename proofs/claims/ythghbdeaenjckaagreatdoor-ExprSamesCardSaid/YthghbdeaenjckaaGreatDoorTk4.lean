import Derived.Test.YthghbdeaenjckaaGreatDoorTkJ
import Derived.Test.YthghbdeaenjckaaGreatDoorTkN
namespace Go.Proofs.YthghbdeaenjckaaGreatDoor
open Go Go.RowKit
set_option maxRecDepth 100000
set_option maxHeartbeats 4000000
theorem behind_bl (s:ByteArray) (k:Nat) (hk:k<s.size) (c:isBl s[k]=true):behind s.data.toList k=behind s.data.toList (k+1):=by
 unfold behind;rw[gap_at_bl s k hk c];omega
theorem behind_hash (s:ByteArray) (k:Nat) (hk:k<s.size) (c:s[k]=35):behind s.data.toList k=behind s.data.toList (k+runL notNl (s.data.toList.drop k))∧0<runL notNl (s.data.toList.drop k):=by
 obtain⟨a,b⟩:=gap_at_hash s k hk c;exact⟨by unfold behind;rw[a];omega,b⟩
theorem behind_no (s:ByteArray) (k:Nat) (hk:k<s.size) (c:¬ isBl s[k]=true) (d:s[k]≠35):behind s.data.toList k=k:=by
 unfold behind;rw[gap_at_no s k hk c d];rfl
theorem behind_end (s:ByteArray) (k:Nat) (hk:¬ k<s.size):behind s.data.toList k=k:=by
 unfold behind;rw[gap_at_end s k hk];rfl
def LoopO (s:ByteArray) (w0:World) (R:Option (List Tok) × Nat × Int) (v a:Value) (w:World):Prop:=
 ∃ (k:Nat) (l:List Tv),k≤s.size∧a= .int .i64 k∧goT s.data.toList (behind s.data.toList k) (l.map (·.1))=R∧Tks w0.heap.size w0 w v l∧l.length≤k
def OBad (w0:World) (p:Nat) (x:Int) (e:Ending) (w':World):Prop:=
 ∃ (t:Tok) (A:Option Addr) (c:Nat),e= .returned (.tuple #[.agg #[.int .i64 t.kind,.string ⟨t.word.toArray⟩,.int .i64 t.n,.slice A t.parts.length c,.int .i64 t.pl],.int .i64 0,.int .i64 p,.int .i64 x])∧Below w0.heap.size w0 w'
def OOk (w0:World) (p:Nat) (t:Tok) (e:Ending) (w':World):Prop:=
 ∃ (A:Option Addr) (c:Nat),e= .returned (.tuple #[.agg #[.int .i64 t.kind,.string ⟨t.word.toArray⟩,.int .i64 t.n,.slice A t.parts.length c,.int .i64 t.pl],.int .i64 p,.int .i64 0,.int .i64 0])∧OwnP w0.heap.size w' (.slice A t.parts.length c) t.parts∧Below w0.heap.size w0 w'
theorem one_b (s:ByteArray) (k q:Nat) (x:Int) (hk:k<s.size) (hs:s.size≤4000) (h:tokR (s.data.toList.drop k)= .bad q x) (w:World):Calls Tryz.prog 33 #[.string s,.int .i64 k] w (OBad w (k+q) x):=by
 have:=one_any s k hk hs w;rw[h] at this
 exact this.mono fun e w' ⟨t,v,he,ho,hb,_⟩=>by
  obtain⟨A,c,rfl,_⟩:=rd_of_own (ps:=t.parts) ho;exact⟨t,A,c,he,hb⟩
theorem one_o (s:ByteArray) (k q:Nat) (t:Tok) (hk:k<s.size) (hs:s.size≤4000) (h:tokR (s.data.toList.drop k)= .ok t q) (w:World):Calls Tryz.prog 33 #[.string s,.int .i64 k] w (OOk w (k+q) (withPl t k)):=by
 have:=one_any s k hk hs w;rw[h] at this
 exact this.mono fun e w' ⟨t',v,he,ho,hb,ht⟩=>by
  obtain rfl:=ht t q rfl;obtain⟨A,c,rfl,_⟩:=rd_of_own (ps:=(withPl t k).parts) ho;exact⟨A,c,he,ho,hb⟩
theorem rscan_any (s:ByteArray) (hs:s.size≤4000) (w:World):Calls Tryz.prog 18 #[.string s] w (PostT w (scan s.data.toList)):=by
 by_cases h2000:2000<s.size
 ·have hR:scan s.data.toList=(none,2000,2):=by unfold scan;rw[if_pos (by rw[len_data];exact h2000)]
  rw[hR];clear hR;go_enter Tryz.func18,Tryz.ntmps18;go_wp2
  go_ret3
  exact⟨_,[],rfl,Tks.nil w,rfl⟩
 ·obtain⟨R,hR⟩:∃ R,R=goT s.data.toList (behind s.data.toList 0) []:=⟨_,rfl⟩
  have hsc:scan s.data.toList=R:=by unfold scan;rw[if_neg (by rw[len_data];exact h2000),hR]
  rw[hsc];have HR:=Lib.hid hR.symm;obtain⟨i0,hi0,hz0,hz1,hz2⟩:=info_parts infoT;clear hR hsc;go_enter Tryz.func18,Tryz.ntmps18;go_wp2
  go_loopw [5,6] (fun v a wr=>LoopO s w R v a wr) (fun _ a _=>s.size - (intOf a).toNat)
  case atStart=>exact⟨0,[],by omega,rfl,HR.out,Tks.nil w,by simp⟩
  case round=>
   obtain⟨k,l,hk,rfl,hg,hT,hl⟩:=hrel;have HGk:=Lib.hid hg;have HT:=Lib.hid hT;clear hg hT;by_cases a:k<s.size
   ·by_cases cb:isBl s[k]=true
    ·have HX:Hid (goT s.data.toList (behind s.data.toList (k+1)) (l.map (·.1))=R):=Lib.hid (by rw[←HGk.out,behind_bl s k a cb])
     have hb:s[k]=32∨(s[k]≠32∧s[k]=9)∨(s[k]≠32∧s[k]≠9∧s[k]=10):=by
      have hx:∀ c:UInt8,isBl c=true→c=32∨(c≠32∧c=9)∨(c≠32∧c≠9∧c=10):=all256 _ (by decide+kernel);exact hx _ cb
     clear cb
     rcases hb with hb | ⟨hb1,hb⟩ | ⟨hb1,hb2,hb⟩
     ·have b1:((s[k].toNat:Int)==32)=true:=byte_eq (n:=32) hb (by omega)
      clear hb;go_wp2
      go_roundw
      case rel=>exact⟨k+1,l,by omega,by go_num,HX.out,HT.out,by omega⟩
      case measure=>simp[intOf];omega
     ·have b1:((s[k].toNat:Int)==32)=false:=byte_ne (n:=32) hb1 (by omega)
      have b2:((s[k].toNat:Int)==9)=true:=byte_eq (n:=9) hb (by omega);clear hb hb1;go_wp2
      go_roundw
      case rel=>exact⟨k+1,l,by omega,by go_num,HX.out,HT.out,by omega⟩
      case measure=>simp[intOf];omega
     ·have b1:((s[k].toNat:Int)==32)=false:=byte_ne (n:=32) hb1 (by omega)
      have b2:((s[k].toNat:Int)==9)=false:=byte_ne (n:=9) hb2 (by omega);have b3:((s[k].toNat:Int)==10)=true:=byte_eq (n:=10) hb (by omega);clear hb hb1 hb2;go_wp2
      go_roundw
      case rel=>exact⟨k+1,l,by omega,by go_num,HX.out,HT.out,by omega⟩
      case measure=>simp[intOf];omega
    ·have hb:s[k]≠32∧s[k]≠9∧s[k]≠10:=by
      have hx:∀ c:UInt8,¬ isBl c=true→c≠32∧c≠9∧c≠10:=all256 _ (by decide+kernel);exact hx _ cb
     obtain⟨hb1,hb2,hb3⟩:=hb;have b1:((s[k].toNat:Int)==32)=false:=byte_ne (n:=32) hb1 (by omega);have b2:((s[k].toNat:Int)==9)=false:=byte_ne (n:=9) hb2 (by omega);have b3:((s[k].toNat:Int)==10)=false:=byte_ne (n:=10) hb3 (by omega);clear hb1 hb2 hb3;by_cases ch:s[k]=35
     ·obtain⟨h1,h2⟩:=behind_hash s k a ch
      have HX:Hid (goT s.data.toList (behind s.data.toList (k+runL notNl (s.data.toList.drop k))) (l.map (·.1))=R):=Lib.hid (by rw[←HGk.out,h1]);have hrun:=runL_le notNl (s.data.toList.drop k);rw[List.length_drop,len_data] at hrun;obtain⟨N,hN⟩:∃ N,N=k+runL notNl (s.data.toList.drop k):=⟨_,rfl⟩;rw[←hN] at HX;have n1:k<N:=by omega
      have n2:N≤s.size:=by omega
      have b35:((s[k].toNat:Int)==35)=true:=byte_eq (n:=35) ch (by omega);have HN:=Lib.hid hN;clear hN hrun h1 h2 ch cb;go_wp2
      go_loop [6] (fun a=>∃ j:Nat,k≤j∧j≤s.size∧a= .int .i64 j∧N=j+runL notNl (s.data.toList.drop j)) (fun a=>s.size - (intOf a).toNat)
      case atStart=>exact⟨k,by omega,by omega,rfl,HN.out⟩
      case round=>
       obtain⟨j,hkj,hj,rfl,hn⟩:=hrel;have HJ:=Lib.hid hn;clear hn;by_cases e:j<s.size
       ·have hr:=runL_at notNl s j e
        by_cases c:notNl s[j]=true
        ·have HY:Hid (N=(j+1)+runL notNl (s.data.toList.drop (j+1))):=by apply Lib.hid;rw[HJ.out,hr,if_pos c];omega
         have c1:((s[j].toNat:Int) != 10)=true:=by unfold notNl at c;simpa using c
         clear hr c;go_wp2
         go_round
         case rel=>exact⟨j+1,by omega,by omega,by go_num,HY.out⟩
         case measure=>simp[intOf];omega
        ·have hjN:j=N:=by rw[HJ.out,hr,if_neg c];omega
         have c1:((s[j].toNat:Int) != 10)=false:=by unfold notNl at c;simpa using c
         clear hr c;subst hjN;go_wp2
         go_roundw
         case rel=>exact⟨_,l,n2,rfl,HX.out,HT.out,by omega⟩
         case measure=>simp[intOf];omega
       ·have hjN:j=N:=by rw[HJ.out,runL_past _ _ _ e];omega
        subst hjN;go_wp2
        go_roundw
        case rel=>exact⟨_,l,n2,rfl,HX.out,HT.out,by omega⟩
        case measure=>simp[intOf];omega
     ·have b35:((s[k].toNat:Int)==35)=false:=byte_ne (n:=35) ch (by omega)
      have hbe:=behind_no s k a cb ch;have hgo:=HGk.out;rw[hbe] at hgo;clear ch cb hbe
      rcases hp:tokR (s.data.toList.drop k) with ⟨q,x⟩ | ⟨t,q⟩
      ·have HX:Hid (R=(none,k+q,x)):=Lib.hid (by rw[←hgo,goT_bad _ (by rw[len_data];exact a) hp])
       have K:=Lib.hid (one_b s k q x a hs hp wr)
       have hx:(x != 0)=true:=by
        have:=(tokR_bad hp).2
        rcases this with h | h <;> (subst h;rfl)
       obtain⟨p,hpq⟩:∃ p,p=k+q:=⟨_,rfl⟩;rw[←hpq] at K HX;clear hp hpq hgo;go_wp2_with (go_at_call 33;((with_reducible refine(K.out).mono ?_));rintro e w1 ⟨t,A,c,rfl,hb⟩;have HB:=Lib.hid hb;clear hb)
       go_ret3
       rw[HX.out];exact⟨_,[],rfl,((HT.out.beyond HB.out).alloc _).none_,rfl⟩
      ·obtain⟨q0,q1,_⟩:=tokR_ok hp
       rw[List.length_drop,len_data] at q1;have HX:Hid (goT s.data.toList (behind s.data.toList (k+q)) (l.map (·.1)++[withPl t k])=R):=Lib.hid (by rw[←hgo,goT_ok _ (by rw[len_data];exact a) hp]);have K:=Lib.hid (one_o s k q t a hs hp wr);generalize withPl t k=t at K HX;obtain⟨p,hpq⟩:∃ p,p=k+q:=⟨_,rfl⟩;rw[←hpq] at K HX;have n3:k<p:=by omega
       have n2:p≤s.size:=by omega
       clear hp hpq q0 q1 hgo;go_wp2_with (first | (go_at_call 33;((with_reducible refine(K.out).mono ?_));rintro e w1 ⟨A,c,rfl,ho,hb⟩;have HB:=Lib.hid hb;have HO:=Lib.hid ho;clear hb ho) | (at_builtin;refine wpList_append_own _ rfl (.tmp 64) (.tmp 66) 27 rfl w.heap.size 38 i0 (.agg #[.int .i64 0,.string ⟨#[]⟩,.int .i64 0,.slice none 0 0,.int .i64 0]) 5 64 Tryz.underlying27 hi0 hz0 hz1 hz2 rfl (by decide) _ _ _ rfl (((HT.out.beyond HB.out).alloc _).alloc _).row ⟨w1.heap.size+1,0,none⟩ 1 1 [.int .i64 t.kind,.string ⟨t.word.toArray⟩,.int .i64 t.n,.slice A t.parts.length c,.int .i64 t.pl] rfl rfl (fun j u hu=>new_cellsT w1 (.cells #[.int .i64 t.kind,.string ⟨t.word.toArray⟩,.int .i64 t.n,.slice A t.parts.length c,.int .i64 t.pl] 38) 38 #[.int .i64 t.kind,.string ⟨t.word.toArray⟩,.int .i64 t.n,.slice A t.parts.length c,.int .i64 t.pl] j u hu) (five_one _ _ _ _ _ _ _) (by unfold maxLen;omega) (by omega) (((HT.out.beyond HB.out).alloc _).alloc _).size ?_;intro v2 w3 hown' hgrow _))
       go_roundw
       case rel=>
        refine⟨p,l++[(t,.slice A t.parts.length c)],n2,rfl,by rw[List.map_append];exact HX.out,(((HT.out.beyond HB.out).alloc _).alloc _).token (g:=t) (u:= .slice A t.parts.length c) ?_ hown' hgrow,by rw[List.length_append];simp;omega⟩;exact(((HO.out.mono HT.out.size).alloc _).alloc _)
       case measure=>simp[intOf];omega
   ·have HX:Hid (R=(some (l.map (·.1)),0,0)):=Lib.hid (by rw[←HGk.out,behind_end s k a,goT_end _ (by rw[len_data];exact a)])
    go_wp2
    go_ret3
    rw[HX.out];exact⟨_,l,rfl,HT.out,rfl⟩
def ReadT (w:World) (ts:List Tok) (q:Nat) (x:Int) (e:Ending) (w':World):Prop:=
 ∃ A c,e= .returned (.tuple #[.slice A ts.length c,.int .i64 q,.int .i64 x])∧RdT w'.heap.size w' A ts.length ts∧Below w.heap.size w w'
theorem postT_read {w w':World} {e:Ending} {o:Option (List Tok)} {q:Nat} {x:Int} {ts:List Tok} (ho:o.getD []=ts) (h:PostT w (o,q,x) e w'):ReadT w ts q x e w':=by
 obtain⟨v,l,he,ht,hl⟩:=h;dsimp only at hl;rw[ho] at hl;obtain⟨A,c,rfl,hr⟩:=rdt_of_own ht;have e1:l.length=ts.length:=by rw[←hl,List.length_map]
 rw[hl,e1] at hr;rw[e1] at he;exact⟨A,c,he,hr,ht.below⟩
theorem rscan_read (s:ByteArray) (hs:s.size≤4000) (o:Option (List Tok)) (q:Nat) (x:Int) (ts:List Tok) (ho:o.getD []=ts) (h:scan s.data.toList=(o,q,x)) (w:World):Calls Tryz.prog 18 #[.string s] w (ReadT w ts q x):=
 (rscan_any s hs w).mono fun e w' hp=>postT_read ho (by rw[←h];exact hp)
theorem itoa1:Lib.itoa 1=[49]:=by
 unfold Lib.itoa;rw[if_neg (by decide)];exact dec_small (by decide)
theorem tk_all:∀ (k:Nat) (l:Bs),tk k l=l.length→l.all isIn=true
 | _,[],_=>rfl
 | 0,c::r,h=>by simp[tk] at h
 | k+1,c::r,h=>by
   rw[tk_cons] at h
   split at h
   ·rename_i hc
    rw[List.all_cons,hc,tk_all k r (by rw[List.length_cons] at h;omega)];rfl
   ·rw[List.length_cons] at h;omega
theorem dig_in (c:UInt8) (h:isDig c=true):isIn c=true:=by unfold isIn;rw[h];simp
theorem name_all {w:Bs} (h:isName w=true):w≠[]∧w.all isIn=true:=by
 unfold isName at h;rw[Bool.and_eq_true] at h;obtain⟨h1,h2⟩:=h;have h2:=of_decide_eq_true h2
 cases w with
 | nil=>simp at h1
 | cons c r=>
   refine⟨by simp,?_⟩;rw[nameLen_cons,List.length_cons] at h2
   split at h2
   ·rename_i hd
    have:r=[]:=List.eq_nil_of_length_eq_zero (by omega);subst this;simp[dig_in c hd]
   ·split at h2
    ·rename_i hl
     rw[List.all_cons,low_in c hl,tk_all 7 r (by omega)];rfl
    ·omega
def Behind (rest:Bs):Prop:=∀ c,rest.head?=some c→c=32
theorem behind_stop {rest:Bs} (h:Behind rest) (p:UInt8→Bool) (hp:p 32=false):∀ c,rest.head?=some c→p c=false:=fun c hc=>by rw[h c hc];exact hp
theorem numR_dec (u:Nat) (hu:u<9223372036854775808):numR (Lib.decDigits u)=((u:Int),0):=by
 obtain⟨h1,h2,h3,h4⟩:=dec_facts u;unfold numR
 have hno:¬ ((Lib.decDigits u).head?=some 48∧¬ (Lib.decDigits u).length=1):=by
  rintro⟨a,b⟩;by_cases h0:u=0
  ·subst h0
   rw[dec_small (by decide)] at b;exact b rfl
  ·exact h4 h0 a
 rw[if_neg hno,h2,if_pos hu]
theorem digB_dig (c:UInt8) (h:digB c=true):isDig c=true:=by
 have:isDig c=digB c:=by
  unfold isDig digB;rw[Bool.eq_iff_iff];simp;omega
 rw[this];exact h
theorem okT_kinds {t:Tok} (h:okT t=true) (h2:¬ t.kind=2) (h3:¬ t.kind=3):t.n=0∧t.parts=[]∧mayW t.kind t.word=true:=by
 unfold okT at h;rw[if_neg h2,if_neg h3] at h;simp only[Bool.and_eq_true,decide_eq_true_eq,List.isEmpty_iff] at h;exact⟨h.1.2,h.2,h.1.1⟩
theorem with0 (t:Tok) (k:Int) (w:Bs) (n:Int) (ps:List Pt) (h1:t.kind=k) (h2:t.word=w) (h3:t.n=n) (h4:t.parts=ps):withPl t 0=⟨k,w,n,ps,0⟩:=by subst h1 h2 h3 h4;rfl
theorem wordR_yes {k:Int} {w:Bs} (h:mayW k w=true) (q:Nat):wordR k w q= .ok ⟨k,w,0,[],0⟩ q:=by unfold wordR;rw[if_pos h]
theorem tok_text (t:Tok) (rest:Bs) (ho:okT t=true) (hn:t.n≤9223372036854775807) (hb:Behind rest):tokR (textT t++rest)= .ok (withPl t 0) (textT t).length:=by
 by_cases k2:t.kind=2
 ·have h:=ho
  unfold okT at h;rw[if_pos k2] at h;simp only[Bool.and_eq_true,decide_eq_true_eq,List.isEmpty_iff] at h;obtain⟨⟨h1,h2⟩,h3⟩:=h
  have e:textT t=Lib.decDigits t.n.toNat:=by
   unfold textT Lib.itoa;rw[if_pos k2,if_neg (by omega)]
  have hu:t.n.toNat<9223372036854775808:=by omega
  obtain⟨d1,d2,d3,_⟩:=dec_facts t.n.toNat;have hr:=numR_dec _ hu;rw[e];generalize Lib.decDigits t.n.toNat=l at d1 d3 hr ⊢
  cases l with
  | nil=>exact absurd rfl d3
  | cons c r=>
    have hall:(c::r).all isDig=true:=by
     rw[List.all_eq_true] at d1 ⊢;exact fun x hx=>digB_dig x (d1 x hx)
    have hd:isDig c=true:=by rw[List.all_cons,Bool.and_eq_true] at hall;exact hall.1
    have hrun:=runL_stop isDig (c::r) rest hall (behind_stop hb isDig (by decide));have h34:c≠34:=by rintro rfl;revert hd;decide
    have hx:tokR (c::r++rest)=numT (c::r++rest):=by
     rw[List.cons_append];unfold tokR;dsimp only;rw[if_neg h34,if_pos hd]
    rw[hx];unfold numT;rw[hrun,List.take_left' rfl,hr,if_pos rfl];rw[with0 t 2 [] t.n.toNat [] k2 h1 (by omega) h3]
 ·by_cases k3:t.kind=3
  ·have h:=ho
   unfold okT at h;rw[if_neg k2,if_pos k3] at h;simp only[Bool.and_eq_true,decide_eq_true_eq,List.isEmpty_iff] at h;obtain⟨⟨h1,h2⟩,h3⟩:=h;have e:textT t=print t.parts:=textT_3 k3;have hp:=parse_print t.parts rest h3;rw[e]
   have hx:tokR (print t.parts++rest)=textR (print t.parts++rest):=by
    unfold print;rw[List.cons_append];unfold tokR;dsimp only;rw[if_pos rfl]
   rw[hx];unfold textR;rw[hp,with0 t 3 [] 0 t.parts k3 h1 h2 rfl]
  ·obtain⟨n0,p0,hm⟩:=okT_kinds ho k2 k3
   by_cases k5:t.kind=5
   ·rw[textT_5 k5,List.cons_append]
    rw[k5,mayW_5] at hm
    have hx:∀ w:Bs,isFlagL w=true→lowHead w=true∧w.all isLow=true:=by
     intro w hw;unfold isFlagL at hw
     rcases of_decide_eq_true hw with h | h | h | h <;> (subst h;decide)
    obtain⟨f1,f2⟩:=hx _ hm;have hrun:=runL_stop isLow t.word rest f2 (behind_stop hb isLow (by decide))
    have hlow:lowHead (t.word++rest)=true:=by
     generalize t.word=w at f1
     cases w with
     | nil=>cases f1
     | cons c r=>exact f1
    unfold tokR;dsimp only;rw[if_neg (by decide),if_neg (by decide),if_neg (by decide),if_neg (by decide),if_pos ⟨rfl,hlow⟩,hrun,List.take_left' rfl,wordR_yes (by rw[mayW_5];exact hm),with0 t 5 t.word 0 [] k5 rfl n0 p0]
    rfl
   ·by_cases k6:t.kind=6
    ·rw[textT_6 k6,List.cons_append]
     rw[k6,mayW_6] at hm;obtain⟨_,f2⟩:=name_all hm;have hrun:=runL_stop isIn t.word rest f2 (behind_stop hb isIn (by decide));unfold tokR;dsimp only;rw[if_neg (by decide),if_neg (by decide),if_neg (by decide),if_pos rfl,hrun,List.take_left' rfl,wordR_yes (by rw[mayW_6];exact hm),with0 t 6 t.word 0 [] k6 rfl n0 p0]
     rfl
    ·rw[textT_x k2 k3 k5 k6]
     by_cases k1:t.kind=1
     ·rw[k1,mayW_1] at hm
      rw[with0 t 1 t.word 0 [] k1 rfl n0 p0];generalize t.word=w at hm
      cases w with
      | nil=>cases hm
      | cons c r=>
        have hm2:=hm
        change (isLow c && r.all isIn && decide (r.length≤13))=true at hm2
        simp only[Bool.and_eq_true] at hm2;obtain⟨⟨h1,h2⟩,_⟩:=hm2;obtain⟨h34,hd,_,_⟩:=head_low c h1;have hall:(c::r).all isIn=true:=by rw[List.all_cons,low_in c h1,h2];rfl
        have hrun:=runL_stop isIn (c::r) rest hall (behind_stop hb isIn (by decide));rw[List.cons_append] at hrun ⊢;unfold tokR;dsimp only;rw[if_neg h34,if_neg (by rw[hd];decide),if_pos h1,hrun,show (c::(r++rest)).take (c::r).length=c::r from List.take_left' (l₁:=c::r) rfl,wordR_yes (by rw[mayW_1];exact hm)]
     ·by_cases k4:t.kind=4
      ·rw[k4,mayW_4] at hm
       rw[with0 t 4 t.word 0 [] k4 rfl n0 p0];have hs:=sign_cases hm;generalize t.word=w at hs;unfold sgns at hs;simp only[List.mem_cons,List.not_mem_nil,or_false] at hs
       have hrest:rest=[]∨∃ r,rest=32::r:=by
        cases rest with
        | nil=>exact .inl rfl
        | cons c r=>exact .inr ⟨r,by rw[hb c rfl]⟩
       rcases hrest with rfl | ⟨r,rfl⟩
       ·rcases hs with h | h | h | h | h | h | h | h | h | h | h | h | h | h | h | h | h | h <;> (subst h;rfl)
       ·rcases hs with h | h | h | h | h | h | h | h | h | h | h | h | h | h | h | h | h | h <;> (subst h;rfl)
      ·exfalso
       unfold mayW at hm;rw[if_neg k1,if_neg k4,if_neg k5,if_neg k6] at hm
       cases hm
theorem tok_head {l:Bs} {t:Tok} {q:Nat} (h:tokR l= .ok t q):∀ c,l.head?=some c→isBl c=false∧c≠35:=by
 intro c hc
 cases l with
 | nil=>cases hc
 | cons d r=>
   injection hc with hc
   subst hc;by_cases hx:isBl d=false∧d≠35
   ·exact hx
   ·exfalso
    have hb:d=32∨d=9∨d=10∨d=35:=by
     have hy:∀ d:UInt8,¬ (isBl d=false∧d≠35)→d=32∨d=9∨d=10∨d=35:=all256 _ (by decide+kernel);exact hy d hx
    have hs:tokR (d::r)=wordR 4 ((d::r).take (signL (d::r))) (signL (d::r)):=by
     unfold tokR;dsimp only
     rcases hb with h | h | h | h <;> (subst h;rw[if_neg (by decide),if_neg (by decide),if_neg (by decide),if_neg (by decide),if_neg (by rintro⟨h,_⟩;revert h;decide)])
    rw[hs] at h;obtain⟨_,_,hm⟩:=wordR_ok h;rw[mayW_4] at hm;have hl:=sign_len hm;have hc:=sign_cases hm;have hz:∀ x∈sgns,x.head?≠some 32∧x.head?≠some 9∧x.head?≠some 10∧x.head?≠some 35:=by decide
    have hy:=hz _ hc
    have hh:((d::r).take (signL (d::r))).head?=some d:=by
     cases hsl:signL (d::r) with
     | zero=>rw[hsl] at hl;simp at hl
     | succ n=>rfl
    rw[hh] at hy;obtain⟨y1,y2,y3,y4⟩:=hy
    rcases hb with h | h | h | h
    ·exact y1 (by rw[h])
    ·exact y2 (by rw[h])
    ·exact y3 (by rw[h])
    ·exact y4 (by rw[h])
theorem text_ne (t:Tok) (ho:okT t=true) (hn:t.n≤9223372036854775807):0<(textT t).length∧∀ rest c,(textT t++rest).head?=some c→isBl c=false∧c≠35:=by
 have h:=tok_text t [] ho hn (fun c hc=>by cases hc);have h1:=(tokR_ok h).1;have h2:=tok_head h;refine⟨h1,fun rest c hc=>h2 c ?_⟩;rw[List.append_nil]
 cases htt:textT t with
 | nil=>rw[htt] at h1;simp at h1
 | cons d r=>rw[htt,List.cons_append] at hc;exact hc
theorem gap_text (t:Tok) (rest:Bs) (ho:okT t=true) (hn:t.n≤9223372036854775807):gap false (textT t++rest)=0:=gap_zero _ ((text_ne t ho hn).2 rest)
def candT (t:Tok):Bs:=if t.kind=1∨t.kind=4 then t.word else if t.kind=2 then (if 0≤t.n then Lib.itoa t.n else []) else if t.kind=3 then (if may false t.parts then print t.parts else []) else if t.kind=5 then 45::t.word else if t.kind=6 then 36::t.word else []
theorem cand_ok {t:Tok} (ho:okT t=true):candT t=textT t:=by
 unfold candT;by_cases k2:t.kind=2
 ·have h:=ho
  unfold okT at h;rw[if_pos k2] at h;simp only[Bool.and_eq_true,decide_eq_true_eq] at h;rw[if_neg (by omega),if_pos k2,if_pos h.1.2];unfold textT;rw[if_pos k2]
 ·by_cases k3:t.kind=3
  ·have h:=ho
   unfold okT at h;rw[if_neg k2,if_pos k3] at h;simp only[Bool.and_eq_true] at h;rw[if_neg (by omega),if_neg k2,if_pos k3,if_pos h.2,textT_3 k3]
  ·obtain⟨_,_,hm⟩:=okT_kinds ho k2 k3
   by_cases k5:t.kind=5
   ·rw[if_neg (by omega),if_neg k2,if_neg k3,if_pos k5,textT_5 k5]
   ·by_cases k6:t.kind=6
    ·rw[if_neg (by omega),if_neg k2,if_neg k3,if_neg k5,if_pos k6,textT_6 k6]
    ·rw[textT_x k2 k3 k5 k6]
     by_cases k1:t.kind=1∨t.kind=4
     ·rw[if_pos k1]
     ·exfalso
      unfold mayW at hm;rw[if_neg (fun e=>k1 (.inl e)),if_neg (fun e=>k1 (.inr e)),if_neg k5,if_neg k6] at hm
      cases hm
theorem eqT_eq {a b:Tok} (h:eqT a b=true):a=b:=by
 obtain⟨k,w,n,ps,p⟩:=a;obtain⟨k',w',n',ps',p'⟩:=b;unfold eqT at h;simp only[Bool.and_eq_true,decide_eq_true_eq] at h;obtain⟨⟨⟨⟨h1,h2⟩,h3⟩,h4⟩,h5⟩:=h;subst h1 h2 h3 h4 h5;rfl
theorem scan_text (t:Tok) (ho:okT t=true) (hn:t.n≤9223372036854775807) (hl:(textT t).length≤2000):scan (textT t)=(some [withPl t 0],0,0):=by
 obtain⟨hpos,_⟩:=text_ne t ho hn;have h1:=tok_text t [] ho hn (fun c hc=>by cases hc);have hg:=gap_text t [] ho hn;rw[List.append_nil] at h1 hg;unfold scan;have hb:behind (textT t) 0=0:=by unfold behind;rw[List.drop_zero,hg]
 have hb2:behind (textT t) (0+(textT t).length)=(textT t).length:=by
  unfold behind;rw[Nat.zero_add,List.drop_length]
  rfl
 rw[if_neg (by omega),hb,goT_ok [] (k:=0) hpos (by rw[List.drop_zero];exact h1),hb2,goT_end _ (Nat.lt_irrefl _)]
 rfl
theorem cand_no {t:Tok} (ho:okT t=false) (hl:(candT t).length≤2000):(∃ q e,scan (candT t)=(none,q,e)∧(e=1∨e=3))∨∃ out,scan (candT t)=(some out,0,0)∧(∀ x∈out,Read1 (candT t).length x)∧out.length≤2000∧∀ x,out=[x]→eqT x (withPl t 0)=false:=by
 rcases scan_cases (candT t) with ⟨q,e,h1,h2,h3⟩ | ⟨out,h1,h2,h3,h4⟩
 ·exact .inl ⟨q,e,h1,by have:=h3 hl;omega⟩
 ·refine .inr ⟨out,h1,h2,by omega,fun x hx=>?_⟩
  rw[Bool.eq_false_iff];intro he;have:=eqT_eq he;have hr:=(h2 x (by rw[hx];simp)).ok;rw[this,okT_pl,ho] at hr
  cases hr
end Go.Proofs.YthghbdeaenjckaaGreatDoor
