import Derived.Test.YtdobinjbejagcaaGreatDoorTkR
import Derived.Test.YtdobinjbejagcaaGreatDoorTkQ
namespace Go.Proofs.YtdobinjbejagcaaGreatDoor
open Go Go.RowKit
theorem rtext_any (t:Tok) (A:Option Addr) (c:Nat) (w:World) (h:Rd w.heap.size w A t.parts.length t.parts) (hf:FitT t) (hl:(candT t).length≤2000):
  Calls Tryz.prog 21 #[tokA t A c] w fun e w'=>e= .returned (.tuple #[.string (textB t),.int .i64 (errB t)])∧Below w.heap.size w w':=by
 obtain⟨kd,wd,n,ps,pl⟩:=t;have hC:(⟨(candT ⟨kd,wd,n,ps,pl⟩).toArray⟩:ByteArray).data.toList=candT ⟨kd,wd,n,ps,pl⟩:=rfl;have hCs:(⟨(candT ⟨kd,wd,n,ps,pl⟩).toArray⟩:ByteArray).size≤2000:=by rw[←len_data];exact hl
 have KS:∀ w' wb,Below wb.heap.size wb w'→Calls Tryz.prog 31 #[.string ⟨(candT ⟨kd,wd,n,ps,pl⟩).toArray⟩] w' fun e w2=>PostT w' (scan (candT ⟨kd,wd,n,ps,pl⟩)) e w2∧Below wb.heap.size wb w2:=fun w' wb hb=>by
  have:=rscan_any _ (Nat.le_trans hCs (by decide)) w';rw[hC] at this;exact this.mono fun e w2 hp=>⟨hp,by obtain⟨v,l,_,ht,_⟩:=hp;exact hb.trans (ht.below.mono hb.size)⟩
 by_cases ho:okT ⟨kd,wd,n,ps,pl⟩=true
 ·have e1:=cand_ok ho
  have hsc:=scan_text _ ho hf.n.2 (by rw[←e1];exact hl);rw[←e1] at hsc;have h0:errB ⟨kd,wd,n,ps,pl⟩=0∧textB ⟨kd,wd,n,ps,pl⟩=⟨(candT ⟨kd,wd,n,ps,pl⟩).toArray⟩:=by rw[e1];exact errB_ok ho
  rw[h0.1,h0.2];refine rtext_yes kd wd n ps pl A ps.length c rfl w h hf _ rfl _ rfl hCs (withPl ⟨kd,wd,n,ps,pl⟩ 0) (Nat.le_trans hf.parts (by decide)) (eqT_self _) fun w' hb=>(KS w' _ hb).mono fun e w2 ⟨hp,h2⟩=>?_
  rw[hsc] at hp;obtain⟨v,l,he,ht,hm⟩:=hp;exact⟨v,l,he,ht,hm,h2⟩
 ·have ho:=Bool.eq_false_iff.2 ho
  have h0:errB ⟨kd,wd,n,ps,pl⟩=5∧textB ⟨kd,wd,n,ps,pl⟩=⟨#[]⟩:=by unfold errB textB;rw[ho];exact⟨rfl,rfl⟩
  rw[h0.1,h0.2]
  rcases cand_no ho hl with ⟨q,x,hsc,hx⟩ | ⟨out,hsc,hr,hlen,hone⟩
  ·refine rtext_none kd wd n ps pl A ps.length c rfl w h hf _ rfl _ rfl hCs q x (by rcases hx with e | e <;> (subst e;rfl)) (by rcases hx with e | e <;> (subst e;rfl)) fun w' hb=>(KS w' _ hb).mono fun e w2 ⟨hp,h2⟩=>?_
   rw[hsc] at hp;obtain⟨A2,c2,he,_,_⟩:=postT_read (ts:=[]) rfl hp;exact⟨A2,c2,he,h2⟩
  ·by_cases h1:out.length=1
   ·obtain⟨x,rfl⟩:=List.length_eq_one_iff.1 h1
    refine rtext_no kd wd n ps pl A ps.length c rfl w h hf _ rfl _ rfl hCs x (by
     rcases(hr x (by simp)).parts with e | ⟨l,q,e,hl2⟩
     ·rw[e];simp
     ·have:=parse_len l x.parts (by rw[e]);omega) (hone x rfl) fun w' hb=>(KS w' _ hb).mono fun e w2 ⟨hp,h2⟩=>?_
    rw[hsc] at hp;obtain⟨v,l,he,ht,hm⟩:=hp;exact⟨v,l,he,ht,hm,h2⟩
   ·refine rtext_many kd wd n ps pl A ps.length c rfl w h hf _ rfl _ rfl hCs out.length (by simp;omega) (by simpa using h1) fun w' hb=>(KS w' _ hb).mono fun e w2 ⟨hp,h2⟩=>?_
    rw[hsc] at hp;obtain⟨A2,c2,he,_,_⟩:=postT_read (ts:=out) rfl hp;exact⟨A2,c2,he,h2⟩
theorem joinT_take {ts:List Tok} (hl:∀ t∈ts,okT t=true→(textT t).length≤2000):∀ k,(ts.take k).all okT=true→(joinT (ts.take k)).length≤k * 2001
 | 0,_=>by simp[joinT]
 | k+1,h=>by
   by_cases hk:k<ts.length
   ·have e:ts.take (k+1)=ts.take k++[ts[k]]:=List.take_succ_eq_append_getElem hk
    rw[e,List.all_append,Bool.and_eq_true] at h;have ih:=joinT_take hl k h.1;have ho:okT ts[k]=true:=by simpa using h.2
    have:=hl ts[k] (by simp) ho;have h1:(if ts.take k=[] then ([]:Bs) else [32]).length≤1:=by split <;> simp
    rw[e,joinT_snoc,List.length_append,List.length_append,Nat.succ_mul];exact Nat.le_trans (Nat.add_le_add (Nat.add_le_add ih h1) this) (by omega)
   ·rw[List.take_of_length_le (by omega)] at h ⊢
    have ih:=joinT_take hl k (by rw[List.take_of_length_le (by omega)];exact h);rw[List.take_of_length_le (by omega)] at ih;rw[Nat.succ_mul];exact Nat.le_trans ih (Nat.le_add_right _ _)
structure JR (ts:List Tok) (k:Nat) (S:ByteArray):Prop where
 ok:(ts.take k).all okT=true
 out:S.data.toList=joinT (ts.take k)
theorem JR.more {ts:List Tok} {k:Nat} {S:ByteArray} {t:Tok} {T:ByteArray} (h:JR ts k S) (hk:0<k) (ht:ts[k]?=some t) (ho:okT t=true) (hT:T.data.toList=textT t):JR ts (k+1) (S++⟨#[32]⟩++T):=by
 refine⟨by rw[take_snocT ht,List.all_append,h.ok];simp[ho],?_⟩
 have hne:¬ ts.take k=[]:=by
  intro e;have h1:=congrArg List.length e;have h2:=(List.getElem?_eq_some_iff.1 ht).1;rw[List.length_take,List.length_nil] at h1;omega
 rw[take_snocT ht,joinT_snoc,if_neg hne];exact cat_data _ _ _ _ (cat_data _ _ _ _ h.out rfl) hT
theorem JR.first {ts:List Tok} {k:Nat} {S:ByteArray} {t:Tok} {T:ByteArray} (h:JR ts k S) (hk:k=0) (ht:ts[k]?=some t) (ho:okT t=true) (hT:T.data.toList=textT t):JR ts (k+1) (S++T):=by
 subst hk;refine⟨by rw[take_snocT ht,List.all_append,h.ok];simp[ho],?_⟩;rw[take_snocT ht,joinT_snoc];have:=cat_data S T _ _ h.out hT;rw[this];simp
end Go.Proofs.YtdobinjbejagcaaGreatDoor
