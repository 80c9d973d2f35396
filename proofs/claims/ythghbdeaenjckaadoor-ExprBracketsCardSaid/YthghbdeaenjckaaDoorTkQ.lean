import Derived.Test.YthghbdeaenjckaaDoorTkJ
namespace Go.Proofs.YthghbdeaenjckaaDoor
open Go Go.RowKit
set_option maxRecDepth 100000
set_option maxHeartbeats 4000000
theorem behind_bl (s:ByteArray) (k:Nat) (hk:k<s.size) (c:isBl s[k]=true):behind s.data.toList k=behind s.data.toList (k+1):=by
 unfold behind;rw[gap_at_bl s k hk c];omega
theorem behind_hash (s:ByteArray) (k:Nat) (hk:k<s.size) (c:s[k]=35):behind s.data.toList k=behind s.data.toList (k+runL notNl (s.data.toList.drop k))∧0<runL notNl (s.data.toList.drop k):=by
 obtain⟨a,b⟩:=gap_at_hash s k hk c;exact⟨by unfold behind;rw[a];omega,b⟩
theorem behind_no (s:ByteArray) (k:Nat) (hk:k<s.size) (c:¬ isBl s[k]=true) (d:s[k]≠35):behind s.data.toList k=k:=by
 unfold behind;rw[gap_at_no s k hk c d];rfl
theorem behind_end (s:ByteArray) (k:Nat) (hk:¬ k<s.size):behind s.data.toList k=k:=by
 unfold behind;rw[gap_at_end s k hk];rfl
def LoopO (s:ByteArray) (w0:World) (R:Option (List Tok) × Nat × Int) (v a:Value) (w:World):Prop:=
 ∃ (k:Nat) (l:List Tv),k≤s.size∧a= .int .i64 k∧goT s.data.toList (behind s.data.toList k) (l.map (·.1))=R∧Tks w0.heap.size w0 w v l∧l.length≤k
def OBad (w0:World) (p:Nat) (x:Int) (e:Ending) (w':World):Prop:=
 ∃ (t:Tok) (A:Option Addr) (c:Nat),e= .returned (.tuple #[.agg #[.int .i64 t.kind,.string ⟨t.word.toArray⟩,.int .i64 t.n,.slice A t.parts.length c,.int .i64 t.pl],.int .i64 0,.int .i64 p,.int .i64 x])∧Below w0.heap.size w0 w'
def OOk (w0:World) (p:Nat) (t:Tok) (e:Ending) (w':World):Prop:=
 ∃ (A:Option Addr) (c:Nat),e= .returned (.tuple #[.agg #[.int .i64 t.kind,.string ⟨t.word.toArray⟩,.int .i64 t.n,.slice A t.parts.length c,.int .i64 t.pl],.int .i64 p,.int .i64 0,.int .i64 0])∧OwnP w0.heap.size w' (.slice A t.parts.length c) t.parts∧Below w0.heap.size w0 w'
theorem one_b (s:ByteArray) (k q:Nat) (x:Int) (hk:k<s.size) (hs:s.size≤4000) (h:tokR (s.data.toList.drop k)= .bad q x) (w:World):Calls Tryd.prog 11 #[.string s,.int .i64 k] w (OBad w (k+q) x):=by
 have:=one_any s k hk hs w;rw[h] at this
 exact this.mono fun e w' ⟨t,v,he,ho,hb,_⟩=>by
  obtain⟨A,c,rfl,_⟩:=rd_of_own (ps:=t.parts) ho;exact⟨t,A,c,he,hb⟩
theorem one_o (s:ByteArray) (k q:Nat) (t:Tok) (hk:k<s.size) (hs:s.size≤4000) (h:tokR (s.data.toList.drop k)= .ok t q) (w:World):Calls Tryd.prog 11 #[.string s,.int .i64 k] w (OOk w (k+q) (withPl t k)):=by
 have:=one_any s k hk hs w;rw[h] at this
 exact this.mono fun e w' ⟨t',v,he,ho,hb,ht⟩=>by
  obtain rfl:=ht t q rfl;obtain⟨A,c,rfl,_⟩:=rd_of_own (ps:=(withPl t k).parts) ho;exact⟨A,c,he,ho,hb⟩
theorem rscan_any (s:ByteArray) (hs:s.size≤4000) (w:World):Calls Tryd.prog 5 #[.string s] w (PostT w (scan s.data.toList)):=by
 by_cases h2000:2000<s.size
 ·have hR:scan s.data.toList=(none,2000,2):=by unfold scan;rw[if_pos (by rw[len_data];exact h2000)]
  rw[hR];clear hR;go_enter Tryd.func5,Tryd.ntmps5;go_wp2
  go_ret3
  exact⟨_,[],rfl,Tks.nil w,rfl⟩
 ·obtain⟨R,hR⟩:∃ R,R=goT s.data.toList (behind s.data.toList 0) []:=⟨_,rfl⟩
  have hsc:scan s.data.toList=R:=by unfold scan;rw[if_neg (by rw[len_data];exact h2000),hR]
  rw[hsc];have HR:=Lib.hid hR.symm;obtain⟨i0,hi0,hz0,hz1,hz2⟩:=info_parts infoT;clear hR hsc;go_enter Tryd.func5,Tryd.ntmps5;go_wp2
  go_loopw [5,6] (fun v a wr=>LoopO s w R v a wr) (fun _ a _=>s.size - (intOf a).toNat)
  case atStart=>exact⟨0,[],by omega,rfl,HR.out,Tks.nil w,by simp⟩
  case round=>
   obtain⟨k,l,hk,rfl,hg,hT,hl⟩:=hrel;have HGk:=Lib.hid hg;have HT:=Lib.hid hT;clear hg hT;by_cases a:k<s.size
   ·by_cases cb:isBl s[k]=true
    ·have HX:Hid (goT s.data.toList (behind s.data.toList (k+1)) (l.map (·.1))=R):=Lib.hid (by rw[←HGk.out,behind_bl s k a cb])
     have hb:s[k]=32∨(s[k]≠32∧s[k]=9)∨(s[k]≠32∧s[k]≠9∧s[k]=10):=by
      have hx:∀ c:UInt8,isBl c=true→c=32∨(c≠32∧c=9)∨(c≠32∧c≠9∧c=10):=all256 _ (by decide+kernel);exact hx _ cb
     clear cb
     rcases hb with hb | ⟨hb1,hb⟩ | ⟨hb1,hb2,hb⟩
     ·have b1:((s[k].toNat:Int)==32)=true:=byte_eq (n:=32) hb (by omega)
      clear hb;go_wp2
      go_roundw
      case rel=>exact⟨k+1,l,by omega,by go_num,HX.out,HT.out,by omega⟩
      case measure=>simp[intOf];omega
     ·have b1:((s[k].toNat:Int)==32)=false:=byte_ne (n:=32) hb1 (by omega)
      have b2:((s[k].toNat:Int)==9)=true:=byte_eq (n:=9) hb (by omega);clear hb hb1;go_wp2
      go_roundw
      case rel=>exact⟨k+1,l,by omega,by go_num,HX.out,HT.out,by omega⟩
      case measure=>simp[intOf];omega
     ·have b1:((s[k].toNat:Int)==32)=false:=byte_ne (n:=32) hb1 (by omega)
      have b2:((s[k].toNat:Int)==9)=false:=byte_ne (n:=9) hb2 (by omega);have b3:((s[k].toNat:Int)==10)=true:=byte_eq (n:=10) hb (by omega);clear hb hb1 hb2;go_wp2
      go_roundw
      case rel=>exact⟨k+1,l,by omega,by go_num,HX.out,HT.out,by omega⟩
      case measure=>simp[intOf];omega
    ·have hb:s[k]≠32∧s[k]≠9∧s[k]≠10:=by
      have hx:∀ c:UInt8,¬ isBl c=true→c≠32∧c≠9∧c≠10:=all256 _ (by decide+kernel);exact hx _ cb
     obtain⟨hb1,hb2,hb3⟩:=hb;have b1:((s[k].toNat:Int)==32)=false:=byte_ne (n:=32) hb1 (by omega);have b2:((s[k].toNat:Int)==9)=false:=byte_ne (n:=9) hb2 (by omega);have b3:((s[k].toNat:Int)==10)=false:=byte_ne (n:=10) hb3 (by omega);clear hb1 hb2 hb3;by_cases ch:s[k]=35
     ·obtain⟨h1,h2⟩:=behind_hash s k a ch
      have HX:Hid (goT s.data.toList (behind s.data.toList (k+runL notNl (s.data.toList.drop k))) (l.map (·.1))=R):=Lib.hid (by rw[←HGk.out,h1]);have hrun:=runL_le notNl (s.data.toList.drop k);rw[List.length_drop,len_data] at hrun;obtain⟨N,hN⟩:∃ N,N=k+runL notNl (s.data.toList.drop k):=⟨_,rfl⟩;rw[←hN] at HX;have n1:k<N:=by omega
      have n2:N≤s.size:=by omega
      have b35:((s[k].toNat:Int)==35)=true:=byte_eq (n:=35) ch (by omega);have HN:=Lib.hid hN;clear hN hrun h1 h2 ch cb;go_wp2
      go_loop [6] (fun a=>∃ j:Nat,k≤j∧j≤s.size∧a= .int .i64 j∧N=j+runL notNl (s.data.toList.drop j)) (fun a=>s.size - (intOf a).toNat)
      case atStart=>exact⟨k,by omega,by omega,rfl,HN.out⟩
      case round=>
       obtain⟨j,hkj,hj,rfl,hn⟩:=hrel;have HJ:=Lib.hid hn;clear hn;by_cases e:j<s.size
       ·have hr:=runL_at notNl s j e
        by_cases c:notNl s[j]=true
        ·have HY:Hid (N=(j+1)+runL notNl (s.data.toList.drop (j+1))):=by apply Lib.hid;rw[HJ.out,hr,if_pos c];omega
         have c1:((s[j].toNat:Int) != 10)=true:=by unfold notNl at c;simpa using c
         clear hr c;go_wp2
         go_round
         case rel=>exact⟨j+1,by omega,by omega,by go_num,HY.out⟩
         case measure=>simp[intOf];omega
        ·have hjN:j=N:=by rw[HJ.out,hr,if_neg c];omega
         have c1:((s[j].toNat:Int) != 10)=false:=by unfold notNl at c;simpa using c
         clear hr c;subst hjN;go_wp2
         go_roundw
         case rel=>exact⟨_,l,n2,rfl,HX.out,HT.out,by omega⟩
         case measure=>simp[intOf];omega
       ·have hjN:j=N:=by rw[HJ.out,runL_past _ _ _ e];omega
        subst hjN;go_wp2
        go_roundw
        case rel=>exact⟨_,l,n2,rfl,HX.out,HT.out,by omega⟩
        case measure=>simp[intOf];omega
     ·have b35:((s[k].toNat:Int)==35)=false:=byte_ne (n:=35) ch (by omega)
      have hbe:=behind_no s k a cb ch;have hgo:=HGk.out;rw[hbe] at hgo;clear ch cb hbe
      rcases hp:tokR (s.data.toList.drop k) with ⟨q,x⟩ | ⟨t,q⟩
      ·have HX:Hid (R=(none,k+q,x)):=Lib.hid (by rw[←hgo,goT_bad _ (by rw[len_data];exact a) hp])
       have K:=Lib.hid (one_b s k q x a hs hp wr)
       have hx:(x != 0)=true:=by
        have:=(tokR_bad hp).2
        rcases this with h | h <;> (subst h;rfl)
       obtain⟨p,hpq⟩:∃ p,p=k+q:=⟨_,rfl⟩;rw[←hpq] at K HX;clear hp hpq hgo;go_wp2_with (go_at_call 11;((with_reducible refine(K.out).mono ?_));rintro e w1 ⟨t,A,c,rfl,hb⟩;have HB:=Lib.hid hb;clear hb)
       go_ret3
       rw[HX.out];exact⟨_,[],rfl,((HT.out.beyond HB.out).alloc _).none_,rfl⟩
      ·obtain⟨q0,q1,_⟩:=tokR_ok hp
       rw[List.length_drop,len_data] at q1;have HX:Hid (goT s.data.toList (behind s.data.toList (k+q)) (l.map (·.1)++[withPl t k])=R):=Lib.hid (by rw[←hgo,goT_ok _ (by rw[len_data];exact a) hp]);have K:=Lib.hid (one_o s k q t a hs hp wr);generalize withPl t k=t at K HX;obtain⟨p,hpq⟩:∃ p,p=k+q:=⟨_,rfl⟩;rw[←hpq] at K HX;have n3:k<p:=by omega
       have n2:p≤s.size:=by omega
       clear hp hpq q0 q1 hgo;go_wp2_with (first | (go_at_call 11;((with_reducible refine(K.out).mono ?_));rintro e w1 ⟨A,c,rfl,ho,hb⟩;have HB:=Lib.hid hb;have HO:=Lib.hid ho;clear hb ho) | (at_builtin;refine wpList_append_own _ rfl (.tmp 64) (.tmp 66) 23 rfl w.heap.size 40 i0 (.agg #[.int .i64 0,.string ⟨#[]⟩,.int .i64 0,.slice none 0 0,.int .i64 0]) 5 64 Tryd.underlying23 hi0 hz0 hz1 hz2 rfl (by decide) _ _ _ rfl (((HT.out.beyond HB.out).alloc _).alloc _).row ⟨w1.heap.size+1,0,none⟩ 1 1 [.int .i64 t.kind,.string ⟨t.word.toArray⟩,.int .i64 t.n,.slice A t.parts.length c,.int .i64 t.pl] rfl rfl (fun j u hu=>new_cellsT w1 (.cells #[.int .i64 t.kind,.string ⟨t.word.toArray⟩,.int .i64 t.n,.slice A t.parts.length c,.int .i64 t.pl] 40) 40 #[.int .i64 t.kind,.string ⟨t.word.toArray⟩,.int .i64 t.n,.slice A t.parts.length c,.int .i64 t.pl] j u hu) (five_one _ _ _ _ _ _ _) (by unfold maxLen;omega) (by omega) (((HT.out.beyond HB.out).alloc _).alloc _).size ?_;intro v2 w3 hown' hgrow _))
       go_roundw
       case rel=>
        refine⟨p,l++[(t,.slice A t.parts.length c)],n2,rfl,by rw[List.map_append];exact HX.out,(((HT.out.beyond HB.out).alloc _).alloc _).token (g:=t) (u:= .slice A t.parts.length c) ?_ hown' hgrow,by rw[List.length_append];simp;omega⟩;exact(((HO.out.mono HT.out.size).alloc _).alloc _)
       case measure=>simp[intOf];omega
   ·have HX:Hid (R=(some (l.map (·.1)),0,0)):=Lib.hid (by rw[←HGk.out,behind_end s k a,goT_end _ (by rw[len_data];exact a)])
    go_wp2
    go_ret3
    rw[HX.out];exact⟨_,l,rfl,HT.out,rfl⟩
def ReadT (w:World) (ts:List Tok) (q:Nat) (x:Int) (e:Ending) (w':World):Prop:=
 ∃ A c,e= .returned (.tuple #[.slice A ts.length c,.int .i64 q,.int .i64 x])∧RdT w'.heap.size w' A ts.length ts∧Below w.heap.size w w'
theorem postT_read {w w':World} {e:Ending} {o:Option (List Tok)} {q:Nat} {x:Int} {ts:List Tok} (ho:o.getD []=ts) (h:PostT w (o,q,x) e w'):ReadT w ts q x e w':=by
 obtain⟨v,l,he,ht,hl⟩:=h;dsimp only at hl;rw[ho] at hl;obtain⟨A,c,rfl,hr⟩:=rdt_of_own ht;have e1:l.length=ts.length:=by rw[←hl,List.length_map]
 rw[hl,e1] at hr;rw[e1] at he;exact⟨A,c,he,hr,ht.below⟩
theorem rscan_read (s:ByteArray) (hs:s.size≤4000) (o:Option (List Tok)) (q:Nat) (x:Int) (ts:List Tok) (ho:o.getD []=ts) (h:scan s.data.toList=(o,q,x)) (w:World):Calls Tryd.prog 5 #[.string s] w (ReadT w ts q x):=
 (rscan_any s hs w).mono fun e w' hp=>postT_read ho (by rw[←h];exact hp)
theorem itoa1:Lib.itoa 1=[49]:=by
 unfold Lib.itoa;rw[if_neg (by decide)];exact dec_small (by decide)
end Go.Proofs.YthghbdeaenjckaaDoor
