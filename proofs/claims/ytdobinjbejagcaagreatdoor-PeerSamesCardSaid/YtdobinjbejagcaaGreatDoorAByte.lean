import Derived.Test.YtdobinjbejagcaaGreatDoorParse
import Derived.Laws.StructEq
import Derived.RegionTactic
import Derived.ChangeAlike
import Derived.Deep.RegionLaw
namespace Go.Proofs.YtdobinjbejagcaaGreatDoor
open Go Go.RowKit
set_option maxRecDepth 100000
set_option maxHeartbeats 4000000
theorem parse_loop (s:ByteArray) (hs:s.size≤100000) (h0:0<s.size) (hc:s[0]=34) (w:World):Calls Tryz.prog 115 #[.string s] w (PostP w.heap.size w (parse s.data.toList)):=by
 have hd:=drop_at s 0 h0;rw[drop0] at hd;obtain⟨R,hR⟩:∃ R,R=parse s.data.toList:=⟨_,rfl⟩;rw[←hR];rw[hd,hc,parse_quote] at hR;have HR:=Lib.hid hR.symm;have he:=isEmpty_f s h0
 have hx:((s[0].toNat:Int) != 34)=false:=by
  have:=byte_eq (n:=34) hc (by omega);simp only[bne];simpa using this
 obtain⟨i0,hi,hz0,hz1,hz2⟩:=info_parts info33;obtain⟨j0,hj,hy0,hy1,hy2⟩:=info_parts info5;clear hd hc hR;go_enter Tryz.func115,Tryz.ntmps115;go_wp2
 go_loopw [5,6,7] (fun vp vt a wr=>LoopP s w R vp vt a wr) (fun _ _ a _=>s.size - (intOf a).toNat)
 case atStart=>exact⟨1,[],[],h0,rfl,HR.out,⟨World.ownsRow_nil _ _ _ _,World.ownsRow_nil _ _ _ _,Below.refl _ _,Nat.le_refl _⟩,by simp,by simp⟩
 case round=>
  obtain⟨k,ps,t,hk,rfl,hg,hT,hp,ht⟩:=hrel;have HG:=Lib.hid hg;have HT:=Lib.hid hT;clear hg hT;by_cases a:k<s.size
  ·by_cases c34:s[k]=34
   ·have b34:((s[k].toNat:Int) != 34)=false:=by
     have:=byte_eq (n:=34) c34 (by omega);simp only[bne];simpa using this
    have HX:Hid (R=(some (flush ps t),k+1)):=by
     apply Lib.hid;rw[←HG.out,drop_at s k a,c34,goN_stop (step_quote _)]
    have bk:((k:Int)==(s.size:Int))=false:=by simp;omega
    have bk2:(k==s.size)=false:=by simp;omega
    have K20:=Lib.hid (addtext_any _ _ _ _ _ _ _ (by omega) HT.out);clear c34;go_wp2_with (go_at_call 135;((with_reducible refine(K20.out).mono ?_));rintro e w' ⟨v',rfl,HT2⟩)
    go_ret3
    rw[HX.out];exact⟨_,rfl,HT2.parts,HT2.below⟩
   ·have b34:((s[k].toNat:Int) != 34)=true:=by
     have:=byte_ne (n:=34) c34 (by omega);simp only[bne];simpa using this
    by_cases c36:s[k]=36
    ·have b36:((s[k].toNat:Int)==36)=true:=byte_eq (n:=36) c36 (by omega)
     have hst:step (s.data.toList.drop k)=stepVar (s.data.toList.drop (k+1)):=by rw[drop_at s k a,c36,step_dollar]
     have K19:∀ w1,Calls Tryz.prog 134 #[.string s,.int .i64 k] w1 fun e w'=>e= .returned (resV k (step (s.data.toList.drop k)))∧Below w1.heap.size w1 w':=fun w1=>by rw[hst];exact readvar_any s k a (by omega) w1
     have K20:Hid (∀ w1,Below wr.heap.size wr w1→Calls Tryz.prog 135 #[u5,u6] w1 (Added w.heap.size w u6 (flush ps t) t)):=Lib.hid fun w1 hb=>addtext_any _ _ _ _ _ _ _ (by omega) (HT.out.beyond hb)
     rcases step_cases (s.data.toList.drop k) with ⟨n,hr⟩ | hr | ⟨nm,n,hr⟩ | ⟨b,n,hr⟩
     ·have HX:Hid (R=(none,k+n)):=by apply Lib.hid;rw[←HG.out,goN_bad hr]
      rw[hr] at K19;obtain⟨q,hq⟩:∃ q,q=k+n:=⟨_,rfl⟩;simp only[resV] at K19;rw[←hq] at K19 HX;have K19:=Lib.hid K19;clear hst hr hq c34 c36;go_wp2_with (go_at_call 134;((with_reducible refine(K19.out _).mono ?_));rintro e w1 ⟨rfl,hb1⟩)
      go_ret3
      exact postP_bad (HT.out.beyond hb1) HX.out rfl
     ·obtain⟨t,ht⟩:=stop_form hr
      rw[drop_at s k a] at ht;injection ht with ht _
      exact absurd ht c34
     ·obtain⟨n0,nl,_⟩:=var_local hr
      rw[List.length_drop,len_data] at nl;rw[hr] at K19;obtain⟨q,hq⟩:∃ q,q=k+n:=⟨_,rfl⟩
      have HX:Hid (goN (s.data.toList.drop q) q (flush ps t++[(nm,[])]) []=R):=by
       apply Lib.hid;rw[←HG.out,goN_var hr,hq,List.drop_drop]
      simp only[resV] at K19;rw[←hq] at K19;have K19:=Lib.hid K19;have q1:k<q:=by omega
      have q2:q≤s.size:=by omega
      have fl:=flush_len ps t;clear hst hr hq c34 c36
      rcases text_form HT.out.text with ⟨rfl,e0⟩ | ⟨g,cap,rfl,hcap⟩
      ·clear e0
       go_wp2_with (first | (go_at_call 134;((with_reducible refine(K19.out _).mono ?_));rintro e w1 ⟨rfl,hb1⟩) | (go_at_call 135;((with_reducible refine(K20.out _ hb1).mono ?_));rintro e w2 ⟨v',rfl,HT2⟩) | (at_builtin;refine wpList_append_own _ rfl (.tmp 47) (.tmp 50) 46 rfl w.heap.size 88 i0 (.agg #[.string ⟨#[]⟩,.string ⟨#[]⟩]) 2 32 Tryz.underlying46 hi hz0 hz1 hz2 rfl (by decide) _ _ _ rfl (HT2.parts.alloc _) ⟨w2.heap.size,0,none⟩ 1 1 [.string ⟨nm.toArray⟩,.string ⟨#[]⟩] rfl rfl (fun j u hu=>new_cells w2 88 #[.string ⟨nm.toArray⟩,.string ⟨#[]⟩] j u hu) (two_one _ _) (by unfold maxLen;omega) (by omega) (HT2.alloc _).size ?_;intro v2 w3 hown' hgrow _))
       go_roundw
       case rel=>exact⟨q,_,_,q2,rfl,HX.out,((HT2.alloc _).part (p:=(nm,[])) hown' hgrow).nilt,by rw[List.length_append];simp;omega,by simp⟩
       case measure=>simp[intOf];omega
      ·obtain⟨m,hm⟩:∃ m,m=t.length:=⟨_,rfl⟩
       rw[←hm] at hcap HT K20 ⊢;have HM:=Lib.hid hm;clear hm;go_wp2_with (first | (go_at_call 134;((with_reducible refine(K19.out _).mono ?_));rintro e w1 ⟨rfl,hb1⟩) | (go_at_call 135;((with_reducible refine(K20.out _ hb1).mono ?_));rintro e w2 ⟨v',rfl,HT2⟩) | (at_builtin;refine wpList_append_own _ rfl (.tmp 47) (.tmp 50) 46 rfl w.heap.size 88 i0 (.agg #[.string ⟨#[]⟩,.string ⟨#[]⟩]) 2 32 Tryz.underlying46 hi hz0 hz1 hz2 rfl (by decide) _ _ _ rfl (HT2.parts.alloc _) ⟨w2.heap.size,0,none⟩ 1 1 [.string ⟨nm.toArray⟩,.string ⟨#[]⟩] rfl rfl (fun j u hu=>new_cells w2 88 #[.string ⟨nm.toArray⟩,.string ⟨#[]⟩] j u hu) (two_one _ _) (by unfold maxLen;omega) (by omega) (HT2.alloc _).size ?_;intro v2 w3 hown' hgrow _))
       go_roundw
       case rel=>exact⟨q,_,_,q2,rfl,HX.out,((HT2.alloc _).part (p:=(nm,[])) hown' hgrow).cut HM.out,by rw[List.length_append];simp;omega,by simp⟩
       case measure=>simp[intOf];omega
     ·exfalso
      rcases byte_form hr with ⟨t,ht,hp,_⟩ | ⟨c,t,ht,_⟩ | ⟨c,d,t,ht,_⟩ <;> (rw[drop_at s k a,c36] at ht;injection ht with ht _;revert ht)
      ·intro ht;rw[←ht] at hp;revert hp;decide
      ·decide
      ·decide
    ·have b36:((s[k].toNat:Int)==36)=false:=byte_ne (n:=36) c36 (by omega)
     have K21:=fun w1=>readbyte_any s k a (by omega) c34 c36 w1
     rcases step_cases (s.data.toList.drop k) with ⟨n,hr⟩ | hr | ⟨nm,n,hr⟩ | ⟨b,n,hr⟩
     ·have HX:Hid (R=(none,k+n)):=by apply Lib.hid;rw[←HG.out,goN_bad hr]
      rw[hr] at K21;obtain⟨q,hq⟩:∃ q,q=k+n:=⟨_,rfl⟩;simp only[resS] at K21;rw[←hq] at K21 HX;have K21:=Lib.hid K21;clear hr hq c34 c36;go_wp2_with (go_at_call 136;((with_reducible refine(K21.out _).mono ?_));rintro e w1 ⟨rfl,rfl⟩)
      go_ret3
      exact postP_bad HT.out HX.out rfl
     ·obtain⟨t,ht⟩:=stop_form hr
      rw[drop_at s k a] at ht;injection ht with ht _
      exact absurd ht c34
     ·obtain⟨t,ht,_⟩:=svar_form hr
      rw[drop_at s k a] at ht;injection ht with ht _
      exact absurd ht c36
     ·obtain⟨n0,nl,_⟩:=byte_local hr
      rw[List.length_drop,len_data] at nl;rw[hr] at K21;obtain⟨q,hq⟩:∃ q,q=k+n:=⟨_,rfl⟩
      have HX:Hid (goN (s.data.toList.drop q) q ps (t++[b])=R):=by
       apply Lib.hid;rw[←HG.out,goN_byte hr,hq,List.drop_drop]
      simp only[resS] at K21;rw[←hq] at K21;have K21:=Lib.hid K21;have q1:k<q:=by omega
      have q2:q≤s.size:=by omega
      clear hr hq c34 c36;go_wp2_with (first | (go_at_call 136;((with_reducible refine(K21.out _).mono ?_));rintro e w1 ⟨rfl,rfl⟩) | (at_builtin;refine wpList_append_own _ rfl (.tmp 65) (.tmp 67) 81 rfl w.heap.size 5 j0 (.int .u8 0) 1 1 Tryz.underlying81 hj hy0 hy1 hy2 rfl (by decide) _ _ _ rfl (HT.out.text.alloc _) ⟨wr.heap.size,0,none⟩ 1 1 [.int .u8 b.toNat] rfl rfl (fun j u hu=>new_cells wr 5 #[.int .u8 b.toNat] j u hu) (one_one _) (by unfold maxLen;omega) (by omega) (HT.out.alloc _).size ?_;intro v2 w3 hown' hgrow _))
      go_roundw
      case rel=>exact⟨q,_,_,q2,rfl,HX.out,(HT.out.alloc _).byte hown' hgrow,by omega,by rw[List.length_append];simp;omega⟩
      case measure=>simp[intOf];omega
  ·have HX:Hid (R=(none,k)):=by
    apply Lib.hid;rw[←HG.out,drop_end s k a,goN_bad (k:=0) rfl];rfl
   obtain rfl:k=s.size:=by omega
   go_wp2
   go_ret3
   exact postP_bad HT.out HX.out rfl
theorem parse_any (s:ByteArray) (hs:s.size≤100000) (w:World):Calls Tryz.prog 115 #[.string s] w (PostP w.heap.size w (parse s.data.toList)):=by
 by_cases h0:0<s.size
 ·by_cases hc:s[0]=34
  ·exact parse_loop s hs h0 hc w
  ·exact parse_second s h0 hc w
 ·refine parse_first s ?_ h0 w
  rw[isEmpty_t s h0];rfl
def LoopQ (s:ByteArray) (w0:World) (R:Option (List Pt) × Nat) (vp tx a:Value) (w:World):Prop:=
 ∃ (k:Nat) (ps:List Pt) (t:Bs) (T:ByteArray),k≤s.size∧a= .int .i64 k∧tx= .string T∧T.data.toList=t∧goN (s.data.toList.drop k) k ps t=R∧Two2 w0.heap.size w0 w vp (.slice none 0 0) ps []∧ps.length≤k * 2∧t.length≤k
theorem one_byte (w:World) (x:Int) (c:UInt8) (e:(c.toNat:Int)=x):
  (convert 81 9 (.slice (some ⟨w.heap.size,0,none⟩) 1 1)).run Tryz.prog (w.alloc (.cells #[.int .u8 x] 5))= .ok (.string ⟨#[c]⟩) (w.alloc (.cells #[.int .u8 x] 5)):=by
 refine run_convert_bytes_back (P:=Tryz.prog) (w.alloc (.cells #[.int .u8 x] 5)) 81 9 5 ⟨w.heap.size,0,none⟩ 1 [c] Tryz.underlying81 Tryz.underlying5 Tryz.underlying9 ?_;intro j hj;obtain rfl:j=0:=by simpa using hj
 show _=some (Value.int .u8 (c.toNat:Int));rw[e];exact cell_one_new _ _ _ 0 _ rfl
theorem rparse_no (s:ByteArray) (n:Int) (hn:(n != 34)=true) (K:∀ w,Calls Tryz.prog 125 #[.string s,.int .i64 0] w fun e w'=>e= .returned (.int .u8 n)∧w=w') (hR:parse s.data.toList=(none,0)) (w:World):
  Calls Tryz.prog 99 #[.string s] w (PostP w.heap.size w (parse s.data.toList)):=by
 rw[hR];have K:=Lib.hid K;clear hR;go_enter Tryz.func99,Tryz.ntmps99;go_wp2_with (go_at_call 125;((with_reducible refine(K.out _).mono ?_));rintro e w' ⟨rfl,rfl⟩)
 go_ret3
 exact⟨_,rfl,World.ownsRow_nil _ _ _ _,Below.refl _ _⟩
theorem cat_data (T U:ByteArray) (t u:Bs) (h:T.data.toList=t) (g:U.data.toList=u):(T++U).data.toList=t++u:=by
 rw[ByteArray.data_append,Array.toList_append,h,g]
theorem rparse_loop (s:ByteArray) (hs:s.size≤4000) (h0:0<s.size) (hc:s[0]=34) (w:World):Calls Tryz.prog 99 #[.string s] w (PostP w.heap.size w (parse s.data.toList)):=by
 have hd:=drop_at s 0 h0;rw[drop0] at hd;obtain⟨R,hR⟩:∃ R,R=parse s.data.toList:=⟨_,rfl⟩;rw[←hR];rw[hd,hc,parse_quote] at hR;have HR:=Lib.hid hR.symm;have K24:Hid (∀ w,Calls Tryz.prog 125 #[.string s,.int .i64 0] w fun e w'=>e= .returned (.int .u8 34)∧w=w'):=Lib.hid fun w=>at_is s 0 h0 34 (by rw[hc];rfl) w
 obtain⟨i0,hi,hz0,hz1,hz2⟩:=info_parts info33;clear hd hc hR;go_enter Tryz.func99,Tryz.ntmps99;go_wp2_with (go_at_call 125;((with_reducible refine(K24.out _).mono ?_));rintro e w' ⟨rfl,rfl⟩)
 go_loopw [5,6,7] (fun vp tx a wr=>LoopQ s w R vp tx a wr) (fun _ _ a _=>s.size - (intOf a).toNat)
 case atStart=>exact⟨1,[],[],⟨#[]⟩,h0,rfl,rfl,rfl,HR.out,⟨World.ownsRow_nil _ _ _ _,World.ownsRow_nil _ _ _ _,Below.refl _ _,Nat.le_refl _⟩,by simp,by simp⟩
 case round=>
  obtain⟨k,ps,t,T,hk,rfl,rfl,hT0,hg,hT,hp,ht⟩:=hrel;have HG:=Lib.hid hg;have HT:=Lib.hid hT;have HT0:=Lib.hid hT0
  have hTs:T.size≤4000:=by
   have e:=len_data T;rw[hT0] at e;omega
  clear hg hT hT0;by_cases a:k<s.size
  ·obtain⟨c,hcc⟩:∃ c:Int,c=(s[k].toNat:Int):=⟨_,rfl⟩
   by_cases c34:s[k]=34
   ·have b34:((s[k].toNat:Int)==34)=true:=byte_eq (n:=34) c34 (by omega)
    have HX:Hid (R=(some (flush ps t),k+1)):=by
     apply Lib.hid;rw[←HG.out,drop_at s k a,c34,goN_stop (step_quote _)]
    clear c34 hcc;by_cases e0:t=[]
    ·have hz:T.toList=[]:=by rw[toList_data,HT0.out,e0]
     have hz2':T.toList.isEmpty=true:=by rw[hz];rfl
     have HF:Hid (flush ps t=ps):=by apply Lib.hid;unfold flush;rw[if_pos e0]
     clear e0;go_wp2
     go_ret3
     rw[HX.out];exact⟨_,rfl,by show World.ownsRow _ _ _ _ _ (flush ps t).length (cellsP (flush ps t));rw[HF.out];exact HT.out.parts,HT.out.below⟩
    ·have hz:¬ T.toList=[]:=by rw[toList_data,HT0.out];exact e0
     have hz2':T.toList.isEmpty=false:=by simpa using hz
     have HF:Hid (flush ps t=ps++[([],t)]):=by apply Lib.hid;unfold flush;rw[if_neg e0]
     clear e0;have hTe:Hid (T=⟨t.toArray⟩):=by apply Lib.hid;apply ByteArray.ext;rw[←HT0.out]
     go_wp2_with (at_builtin;refine wpList_append_own _ rfl (.tmp 34) (.tmp 37) 46 rfl w.heap.size 88 i0 (.agg #[.string ⟨#[]⟩,.string ⟨#[]⟩]) 2 32 Tryz.underlying46 hi hz0 hz1 hz2 rfl (by decide) _ _ _ rfl (HT.out.parts.alloc _) ⟨wr.heap.size,0,none⟩ 1 1 [.string ⟨#[]⟩,.string T] rfl rfl (fun j u hu=>new_cells wr 88 #[.string ⟨#[]⟩,.string T] j u hu) (two_one _ _) (by unfold maxLen;omega) (by omega) (HT.out.alloc _).size ?_;intro v2 w3 hown' hgrow _)
     go_ret3
     rw[HX.out];rw[hTe.out] at hown';have H3:=(HT.out.alloc _).part (p:=([],t)) hown' hgrow;exact⟨_,rfl,by show World.ownsRow _ _ _ _ _ (flush ps t).length (cellsP (flush ps t));rw[HF.out];exact H3.parts,H3.below⟩
   ·have b34:((s[k].toNat:Int)==34)=false:=byte_ne (n:=34) c34 (by omega)
    by_cases c36:s[k]=36
    ·have b36:((s[k].toNat:Int)==36)=true:=byte_eq (n:=36) c36 (by omega)
     have hst:step (s.data.toList.drop k)=stepVar (s.data.toList.drop (k+1)):=by rw[drop_at s k a,c36,step_dollar]
     have K25:∀ w1,Calls Tryz.prog 126 #[.string s,.int .i64 ((k:Int)+1)] w1 fun e w'=>e= .returned (resF k (step (s.data.toList.drop k)))∧w1=w':=fun w1=>by rw[hst];exact variable_any s k (k+1) rfl (by omega) w1
     have fl:=flush_len ps t
     rcases step_cases (s.data.toList.drop k) with ⟨n,hr⟩ | hr | ⟨nm,n,hr⟩ | ⟨b,n,hr⟩
     ·have HX:Hid (R=(none,k+n)):=by apply Lib.hid;rw[←HG.out,goN_bad hr]
      rw[hr] at K25;obtain⟨q,hq⟩:∃ q,q=k+n:=⟨_,rfl⟩;simp only[resF] at K25;rw[←hq] at K25 HX;have K25:=Lib.hid K25;clear hst hr hq c34 c36 hcc;by_cases e0:t=[]
      ·have hz:T.toList=[]:=by rw[toList_data,HT0.out,e0]
       have hz2':T.toList.isEmpty=true:=by rw[hz];rfl
       clear e0;go_wp2_with (go_at_call 126;((with_reducible refine(K25.out _).mono ?_));rintro e w1 ⟨rfl,rfl⟩)
       go_ret3
       exact postP_bad HT.out HX.out rfl
      ·have hz:¬ T.toList=[]:=by rw[toList_data,HT0.out];exact e0
       have hz2':T.toList.isEmpty=false:=by simpa using hz
       have hTe:T=⟨t.toArray⟩:=by apply ByteArray.ext;rw[←HT0.out]
       have hF3:∀ v2 w3,World.ownsRow w3 w.heap.size 88 2 v2 (ps.length+1) (cellsP ps++[.string ⟨#[]⟩,.string T])→(wr.alloc (.cells #[.string ⟨#[]⟩,.string T] 88)).grownBy w3 u5.ownBlock→Two2 w.heap.size w w3 v2 (.slice none 0 0) (ps++[([],t)]) []:=by
        intro v2 w3 ho hg;rw[hTe] at ho;exact(HT.out.alloc _).part (p:=([],t)) ho hg
       clear e0 hTe;go_wp2_with (first | (go_at_call 126;((with_reducible refine(K25.out _).mono ?_));rintro e w1 ⟨rfl,rfl⟩) | (at_builtin;refine wpList_append_own _ rfl (.tmp 34) (.tmp 37) 46 rfl w.heap.size 88 i0 (.agg #[.string ⟨#[]⟩,.string ⟨#[]⟩]) 2 32 Tryz.underlying46 hi hz0 hz1 hz2 rfl (by decide) _ _ _ rfl (HT.out.parts.alloc _) ⟨wr.heap.size,0,none⟩ 1 1 [.string ⟨#[]⟩,.string T] rfl rfl (fun j u hu=>new_cells wr 88 #[.string ⟨#[]⟩,.string T] j u hu) (two_one _ _) (by unfold maxLen;omega) (by omega) (HT.out.alloc _).size ?_;intro v2 w3 hown' hgrow _;have H3:=hF3 _ _ hown' hgrow;clear hown' hgrow))
       go_ret3
       exact postP_bad H3 HX.out rfl
     ·obtain⟨t,ht⟩:=stop_form hr
      rw[drop_at s k a] at ht;injection ht with ht _
      exact absurd ht c34
     ·obtain⟨n0,nl,_⟩:=var_local hr
      rw[List.length_drop,len_data] at nl;rw[hr] at K25;obtain⟨d,rfl⟩:∃ d,n=d+1:=⟨n - 1,by omega⟩
      have HX:Hid (goN (s.data.toList.drop (k+1+d)) (k+1+d) (flush ps t++[(nm,[])]) []=R):=by
       apply Lib.hid;rw[←HG.out,goN_var hr,List.drop_drop,show k+1+d=k+(d+1) by omega]
      have K25:Hid (∀ w1,Calls Tryz.prog 126 #[.string s,.int .i64 ((k:Int)+1)] w1 fun e w'=>e= .returned (.tuple #[.string ⟨nm.toArray⟩,.int .i64 d,.int .i64 0])∧w1=w'):=by
       apply Lib.hid;simp only[resF] at K25;rw[show ((d+1:Nat):Int) - 1=d by omega] at K25;exact K25
      clear hst hr c34 c36 hcc;by_cases e0:t=[]
      ·have hz:T.toList=[]:=by rw[toList_data,HT0.out,e0]
       have hz2':T.toList.isEmpty=true:=by rw[hz];rfl
       have HF:Hid (flush ps t=ps):=by apply Lib.hid;unfold flush;rw[if_pos e0]
       clear e0;go_wp2_with (first | (go_at_call 126;((with_reducible refine(K25.out _).mono ?_));rintro e w1 ⟨rfl,rfl⟩) | (at_builtin;refine wpList_append_own _ rfl (.tmp 57) (.tmp 60) 46 rfl w.heap.size 88 i0 (.agg #[.string ⟨#[]⟩,.string ⟨#[]⟩]) 2 32 Tryz.underlying46 hi hz0 hz1 hz2 rfl (by decide) _ _ _ rfl (HT.out.parts.alloc _) ⟨wr.heap.size,0,none⟩ 1 1 [.string ⟨nm.toArray⟩,.string ⟨#[]⟩] rfl rfl (fun j u hu=>new_cells wr 88 #[.string ⟨nm.toArray⟩,.string ⟨#[]⟩] j u hu) (two_one _ _) (by unfold maxLen;omega) (by omega) (HT.out.alloc _).size ?_;intro v4 w4 hown4 hgrow4 _))
       go_roundw
       case rel=>exact⟨k+1+d,ps++[(nm,[])],[],⟨#[]⟩,by omega,by go_num,rfl,rfl,by rw[←HX.out,HF.out],(HT.out.alloc _).part (p:=(nm,[])) hown4 hgrow4,by rw[List.length_append];simp;omega,by simp⟩
       case measure=>simp[intOf];omega
      ·have hz:¬ T.toList=[]:=by rw[toList_data,HT0.out];exact e0
       have hz2':T.toList.isEmpty=false:=by simpa using hz
       have hTe:T=⟨t.toArray⟩:=by apply ByteArray.ext;rw[←HT0.out]
       have HF:Hid (flush ps t=ps++[([],t)]):=by apply Lib.hid;unfold flush;rw[if_neg e0]
       have hF3:∀ v2 w3,World.ownsRow w3 w.heap.size 88 2 v2 (ps.length+1) (cellsP ps++[.string ⟨#[]⟩,.string T])→(wr.alloc (.cells #[.string ⟨#[]⟩,.string T] 88)).grownBy w3 u5.ownBlock→Two2 w.heap.size w w3 v2 (.slice none 0 0) (ps++[([],t)]) []:=by
        intro v2 w3 ho hg;rw[hTe] at ho;exact(HT.out.alloc _).part (p:=([],t)) ho hg
       have hl3:(ps++[(([]:Bs),t)]).length≤10000:=by rw[List.length_append];simp;omega
       clear e0 hTe;go_wp2_with (first | (go_at_call 126;((with_reducible refine(K25.out _).mono ?_));rintro e w1 ⟨rfl,rfl⟩) | (at_builtin;refine wpList_append_own _ rfl (.tmp 34) (.tmp 37) 46 rfl w.heap.size 88 i0 (.agg #[.string ⟨#[]⟩,.string ⟨#[]⟩]) 2 32 Tryz.underlying46 hi hz0 hz1 hz2 rfl (by decide) _ _ _ rfl (HT.out.parts.alloc _) ⟨wr.heap.size,0,none⟩ 1 1 [.string ⟨#[]⟩,.string T] rfl rfl (fun j u hu=>new_cells wr 88 #[.string ⟨#[]⟩,.string T] j u hu) (two_one _ _) (by unfold maxLen;omega) (by omega) (HT.out.alloc _).size ?_;intro v2 w3 hown' hgrow _;have H3:=hF3 _ _ hown' hgrow;clear hown' hgrow) | (at_builtin;refine wpList_append_own _ rfl (.tmp 57) (.tmp 60) 46 rfl w.heap.size 88 i0 (.agg #[.string ⟨#[]⟩,.string ⟨#[]⟩]) 2 32 Tryz.underlying46 hi hz0 hz1 hz2 rfl (by decide) _ _ _ rfl (H3.parts.alloc _) ⟨w3.heap.size,0,none⟩ 1 1 [.string ⟨nm.toArray⟩,.string ⟨#[]⟩] rfl rfl (fun j u hu=>new_cells w3 88 #[.string ⟨nm.toArray⟩,.string ⟨#[]⟩] j u hu) (two_one _ _) (by unfold maxLen;omega) (by omega) (H3.alloc _).size ?_;intro v4 w4 hown4 hgrow4 _))
       go_roundw
       case rel=>exact⟨k+1+d,ps++[([],t)]++[(nm,[])],[],⟨#[]⟩,by omega,by go_num,rfl,rfl,by rw[←HX.out,HF.out],(H3.alloc _).part (p:=(nm,[])) hown4 hgrow4,by rw[List.length_append,List.length_append];simp;omega,by simp⟩
       case measure=>simp[intOf];omega
     ·exfalso
      rcases byte_form hr with ⟨t,ht,hp,_⟩ | ⟨c,t,ht,_⟩ | ⟨c,d,t,ht,_⟩ <;> (rw[drop_at s k a,c36] at ht;injection ht with ht _;revert ht)
      ·intro ht;rw[←ht] at hp;revert hp;decide
      ·decide
      ·decide
    ·have b36:((s[k].toNat:Int)==36)=false:=byte_ne (n:=36) c36 (by omega)
     by_cases c92:s[k]=92
     ·have b92:((s[k].toNat:Int)==92)=true:=byte_eq (n:=92) c92 (by omega)
      have hst:step (s.data.toList.drop k)=stepEsc (s.data.toList.drop (k+1)):=by rw[drop_at s k a,c92,step_esc]
      have K26:∀ w1,Calls Tryz.prog 127 #[.string s,.int .i64 ((k:Int)+1)] w1 fun e w'=>e= .returned (resE k (step (s.data.toList.drop k)))∧Below w1.heap.size w1 w':=fun w1=>by rw[hst];exact escape_any s k (k+1) rfl (by omega) (by omega) w1
      rcases step_cases (s.data.toList.drop k) with ⟨n,hr⟩ | hr | ⟨nm,n,hr⟩ | ⟨b,n,hr⟩
      ·have HX:Hid (R=(none,k+n)):=by apply Lib.hid;rw[←HG.out,goN_bad hr]
       rw[hr] at K26;obtain⟨q,hq⟩:∃ q,q=k+n:=⟨_,rfl⟩;simp only[resE] at K26;rw[←hq] at K26 HX;have K26:=Lib.hid K26;clear hst hr hq c34 c36 c92 hcc;go_wp2_with (go_at_call 127;((with_reducible refine(K26.out _).mono ?_));rintro e w1 ⟨rfl,hb1⟩)
       go_ret3
       exact postP_bad (HT.out.beyond hb1) HX.out rfl
      ·obtain⟨t,ht⟩:=stop_form hr
       rw[drop_at s k a] at ht;injection ht with ht _
       exact absurd ht c34
      ·obtain⟨t,ht,_⟩:=svar_form hr
       rw[drop_at s k a] at ht;injection ht with ht _
       exact absurd ht c36
      ·obtain⟨n0,nl,_⟩:=byte_local hr
       rw[List.length_drop,len_data] at nl;rw[hr] at K26;obtain⟨d,rfl⟩:∃ d,n=d+1:=⟨n - 1,by omega⟩
       have HX:Hid (goN (s.data.toList.drop (k+1+d)) (k+1+d) ps (t++[b])=R):=by
        apply Lib.hid;rw[←HG.out,goN_byte hr,List.drop_drop,show k+1+d=k+(d+1) by omega]
       have K26:Hid (∀ w1,Calls Tryz.prog 127 #[.string s,.int .i64 ((k:Int)+1)] w1 fun e w'=>e= .returned (.tuple #[.int .u8 b.toNat,.int .i64 d,.int .i64 0])∧Below w1.heap.size w1 w'):=by
        apply Lib.hid;simp only[resE] at K26;rw[show ((d+1:Nat):Int) - 1=d by omega] at K26;exact K26
       have hone:=fun W:World=>one_byte W (b.toNat:Int) b rfl
       clear hst hr c34 c36 c92 hcc;go_wp2_with (go_at_call 127;((with_reducible refine(K26.out _).mono ?_));rintro e w1 ⟨rfl,hb1⟩)
       go_roundw
       case rel=>exact⟨k+1+d,ps,t++[b],_,by omega,by go_num,rfl,cat_data T _ t [b] HT0.out rfl,HX.out,(HT.out.beyond hb1).alloc _,by omega,by rw[List.length_append];simp;omega⟩
       case measure=>simp[intOf];omega
     ·have b92:((s[k].toNat:Int)==92)=false:=byte_ne (n:=92) c92 (by omega)
      by_cases hpl:plainB s[k]=true
      ·have hr:step (s.data.toList.drop k)= .byte s[k] 1:=by rw[drop_at s k a,step_plain _ _ hpl]
       have HX:Hid (goN (s.data.toList.drop (k+1)) (k+1) ps (t++[s[k]])=R):=by
        apply Lib.hid;rw[←HG.out,goN_byte hr,List.drop_drop]
       have hx:32≤(s[k].toNat:Int)∧(s[k].toNat:Int)≤126:=by
        have:=hpl;unfold plainB at this;simp at this;omega
       obtain⟨x1,x2⟩:=hx;have hone:=fun W:World=>one_byte W (s[k].toNat:Int) s[k] rfl
       clear hr hpl c34 c36 c92 hcc;go_wp2
       go_roundw
       case rel=>exact⟨k+1,ps,t++[s[k]],_,by omega,by go_num,rfl,cat_data T _ t [s[k]] HT0.out rfl,HX.out,HT.out.alloc _,by omega,by rw[List.length_append];simp;omega⟩
       case measure=>simp[intOf];omega
      ·have hr:step (s.data.toList.drop k)= .bad 0:=by rw[drop_at s k a];unfold step;simp[c34,c36,c92,hpl]
       have HX:Hid (R=(none,k)):=by apply Lib.hid;rw[←HG.out,goN_bad hr];rfl
       have hx:(s[k].toNat:Int)<32∨(32≤(s[k].toNat:Int)∧126<(s[k].toNat:Int)):=by
        have h3:¬ (s[k].toNat:Int)=34:=by intro e;exact c34 (by rw[←UInt8.toNat_inj];show s[k].toNat=34;omega)
        have h6:¬ (s[k].toNat:Int)=36:=by intro e;exact c36 (by rw[←UInt8.toNat_inj];show s[k].toNat=36;omega)
        have h9:¬ (s[k].toNat:Int)=92:=by intro e;exact c92 (by rw[←UInt8.toNat_inj];show s[k].toNat=92;omega)
        have:=hpl;unfold plainB at this;simp at this;omega
       clear hr hpl c34 c36 c92 hcc
       rcases hx with hx | ⟨hx,hx2⟩
       all_goals
        go_wp2
        go_ret3
        exact postP_bad HT.out HX.out rfl
  ·have HX:Hid (R=(none,k)):=by
    apply Lib.hid;rw[←HG.out,drop_end s k a,goN_bad (k:=0) rfl];rfl
   obtain rfl:k=s.size:=by omega
   go_wp2
   go_ret3
   exact postP_bad HT.out HX.out rfl
theorem rparse_any (s:ByteArray) (hs:s.size≤4000) (w:World):Calls Tryz.prog 99 #[.string s] w (PostP w.heap.size w (parse s.data.toList)):=by
 by_cases h0:0<s.size
 ·by_cases hc:s[0]=34
  ·exact rparse_loop s hs h0 hc w
  ·have hx:((s[0].toNat:Int) != 34)=true:=by
    have:=byte_ne (n:=34) hc (by omega);simp only[bne];simpa using this
   refine rparse_no s _ hx (fun w=>at_is s 0 h0 _ rfl w) ?_ w;have hd:=drop_at s 0 h0;rw[drop0] at hd;rw[hd,parse_no _ _ hc]
 ·refine rparse_no s 0 (by decide) (fun w=>at_ge s 0 h0 w) ?_ w
  rw[isEmpty_t s h0];rfl
theorem block_of_add (a:Addr) (n:Nat):(a.add n).block=a.block:=by unfold Addr.add;split <;> rfl
def RdA (B:Nat) (w:World) (ad:Addr) (ps:List Pt):Prop:=ad.block<B∧∀ j u,(cellsP ps)[j]?=some u→w.cell? (ad.add j)=some u
def Rd (B:Nat) (w:World) (A:Option Addr) (n:Nat) (ps:List Pt):Prop:=n=ps.length∧(0<n→∃ ad,A=some ad∧RdA B w ad ps)
theorem RdA.keep {B:Nat} {w w':World} {ad:Addr} {ps:List Pt} (h:RdA B w ad ps) (hb:Below B w w'):RdA B w' ad ps:=
 ⟨h.1,fun j u hu=>(hb.cell (by rw[block_of_add];exact h.1)).trans (h.2 j u hu)⟩
theorem Rd.keep {B:Nat} {w w':World} {A:Option Addr} {n:Nat} {ps:List Pt} (h:Rd B w A n ps) (hb:Below B w w'):Rd B w' A n ps:=
 ⟨h.1,fun hn=>by obtain⟨ad,e,hr⟩:=h.2 hn;exact⟨ad,e,hr.keep hb⟩⟩
theorem cellsP_cons (p:Pt) (r:List Pt):cellsP (p::r)= .string ⟨p.1.toArray⟩:: .string ⟨p.2.toArray⟩::cellsP r:=rfl
theorem cells_at:∀ (ps:List Pt) (k:Nat) (p:Pt),ps[k]?=some p→(cellsP ps)[k * 2]?=some (.string ⟨p.1.toArray⟩)∧(cellsP ps)[k * 2+1]?=some (.string ⟨p.2.toArray⟩)
 | [],k,p,h=>by simp at h
 | q::r,0,p,h=>by
   injection h with h;subst h;rw[cellsP_cons];simp
 | q::r,k+1,p,h=>by
   have ih:=cells_at r k p (by simpa using h);rw[cellsP_cons,show (k+1) * 2=k * 2+2 by omega];simpa using ih
theorem RdA.at_ {B:Nat} {w:World} {ad:Addr} {ps:List Pt} (h:RdA B w ad ps) {k:Nat} {p:Pt} (hk:ps[k]?=some p):
  w.cell? (ad.add (k * 2))=some (.string ⟨p.1.toArray⟩)∧w.cell? ⟨(ad.add (k * 2)).block,(ad.add (k * 2)).off+1,none⟩=some (.string ⟨p.2.toArray⟩):=by
 obtain⟨a,b⟩:=cells_at ps k p hk;refine⟨h.2 _ _ a,?_⟩
 have e:(⟨(ad.add (k * 2)).block,(ad.add (k * 2)).off+1,none⟩:Addr)=ad.add (k * 2+1):=by
  unfold Addr.add;by_cases hk:k * 2=0
  ·simp[hk]
  ·simp[hk,Nat.add_assoc]
 rw[e];exact h.2 _ _ b
theorem rd_of_own {w:World} {B:Nat} {v:Value} {ps:List Pt} (h:w.ownsRow B 88 2 v ps.length (cellsP ps)):∃ A c,v= .slice A ps.length c∧Rd w.heap.size w A ps.length ps:=by
 rcases h.2 with ⟨rfl,h0⟩ | ⟨g,cap,cur,rfl,hb,hg,_⟩
 ·exact⟨none,0,by rw[h0],rfl,fun hn=>by omega⟩
 ·refine⟨_,_,rfl,rfl,fun hn=>⟨_,rfl,(Array.getElem?_eq_some_iff.1 hg).1,h.cells (g:=g) rfl⟩⟩
theorem name_is (s:ByteArray) (l:Bs) (v:Bool) (h:s.data.toList=l) (hs:s.size≤4611686018427387904) (hv:isName l=v) (w:World):
  Calls Tryz.prog 52 #[.string s] w fun e w'=>e= .returned (.bool v)∧w=w':=by
 rw[←hv,←h];exact name_any s hs w
theorem rname_is (s:ByteArray) (l:Bs) (v:Bool) (h:s.data.toList=l) (hs:s.size≤4611686018427387904) (hv:isName l=v) (w:World):
  Calls Tryz.prog 26 #[.string s] w fun e w'=>e= .returned (.bool v)∧w=w':=by
 rw[←hv,←h];exact rname_any s hs w
theorem may_cons (b:Bool) (p:Pt) (r:List Pt):may b (p::r)=(okP b p && may (decide (p.1=[])) r):=rfl
theorem drop_pt {ps:List Pt} {k:Nat} {p:Pt} (h:ps[k]?=some p):ps.drop k=p::ps.drop (k+1):=by
 obtain⟨hk,e⟩:=List.getElem?_eq_some_iff.1 h;rw[List.drop_eq_getElem_cons hk,e]
theorem tx_nil {T:ByteArray} {l:Bs} (h:T=⟨l.toArray⟩) (e:l=[]):T.toList=[]∧T.toList.isEmpty=true:=by
 have:T.toList=[]:=by rw[toList_data,h,e]
 exact⟨this,by rw[this];rfl⟩
theorem tx_some {T:ByteArray} {l:Bs} (h:T=⟨l.toArray⟩) (e:¬ l=[]):¬ T.toList=[]∧T.toList.isEmpty=false:=by
 have:¬ T.toList=[]:=by rw[toList_data,h];exact e
 exact⟨this,by simpa using this⟩
theorem may_any (A:Option Addr) (n c:Nat) (ps:List Pt) (w:World) (h:Rd w.heap.size w A n ps) (hmax:n≤1000000) (hl:∀ p∈ps,p.1.length≤1000000):
  Calls Tryz.prog 104 #[.slice A n c] w fun e w'=>e= .returned (.bool (may false ps))∧Below w.heap.size w w':=by
 obtain⟨v,hv⟩:∃ v,v=may false ps:=⟨_,rfl⟩;rw[←hv];have HV:=Lib.hid hv;have HN:=Lib.hid h.1;have HR:=Lib.hid h;have HL:=Lib.hid hl;clear hv h hl;go_enter Tryz.func104,Tryz.ntmps104;go_wp2
 go_loopw [3,9] (fun b i wr=>∃ (k:Nat) (x:Bool),k≤n∧i= .int .i64 k∧b= .bool x∧may x (ps.drop k)=v∧Below w.heap.size w wr) (fun _ i _=>n - (intOf i).toNat)
 case atStart=>exact⟨0,false,by omega,rfl,rfl,HV.out.symm,Below.refl _ _⟩
 case round=>
  obtain⟨k,x,hk,rfl,rfl,hm,hb⟩:=hrel;have HM:=Lib.hid hm;clear hm;by_cases a:k<n
  ·obtain⟨ad,rfl,hr⟩:=HR.out.2 (by omega)
   obtain⟨p,hp⟩:∃ p,ps[k]?=some p:=⟨_,List.getElem?_eq_getElem (by have:=HN.out;omega)⟩;obtain⟨c0,c1⟩:=(hr.keep hb).at_ hp
   obtain⟨N,hN⟩:∃ N:ByteArray,N=⟨p.1.toArray⟩:=⟨_,rfl⟩;obtain⟨T,hT⟩:∃ T:ByteArray,T=⟨p.2.toArray⟩:=⟨_,rfl⟩;rw[←hN] at c0;rw[←hT] at c1;have HP:=Lib.hid hp;have hN1:N.data.toList=p.1:=by rw[hN]
   have hN2:N.size≤4611686018427387904:=by
    have:=HL.out p (List.mem_of_getElem? hp);have e:=len_data N;rw[hN1] at e;omega
   have hc:(okP x p && may (decide (p.1=[])) (ps.drop (k+1)))=v:=by have:=HM.out;rw[drop_pt hp,may_cons] at this;exact this
   clear hr hp;by_cases e1:p.1=[]
   ·obtain⟨n1,n2⟩:=tx_nil hN e1
    by_cases e2:p.2=[]
    ·obtain⟨t1,t2⟩:=tx_nil hT e2
     have HX:Hid (v=false):=by apply Lib.hid;rw[←hc];simp[okP,e1,e2]
     clear e1 e2 hc hN hT hN1;go_wp2;go_ret;exact⟨ret_bool HX.out.symm,hb.alloc hb.size _⟩
    ·obtain⟨t1,t2⟩:=tx_some hT e2
     cases x with
     | true=>
       have HX:Hid (v=false):=by apply Lib.hid;rw[←hc];simp[okP,e1]
       clear e1 e2 hc hN hT hN1;go_wp2;go_ret;exact⟨ret_bool HX.out.symm,hb.alloc hb.size _⟩
     | false=>
       have HX:Hid (may true (ps.drop (k+1))=v):=by apply Lib.hid;rw[←hc];simp[okP,e1,e2]
       clear e1 e2 hc hN hT hN1;go_wp2
       go_roundw
       case rel=>exact⟨k+1,true,by omega,by go_num,rfl,HX.out,hb.alloc hb.size _⟩
       case measure=>simp[intOf];omega
   ·obtain⟨n1,n2⟩:=tx_some hN e1
    by_cases e2:p.2=[]
    ·obtain⟨t1,t2⟩:=tx_nil hT e2
     by_cases e3:isName p.1=true
     ·have K:=Lib.hid fun w=>name_is N p.1 true hN1 hN2 e3 w
      have HX:Hid (may false (ps.drop (k+1))=v):=by apply Lib.hid;rw[←hc];simp[okP,e1,e2,e3]
      clear e1 e2 hc hN hT hN1 e3;go_wp2_with (go_at_call 52;((with_reducible refine(K.out _).mono ?_));rintro e w' ⟨rfl,rfl⟩)
      go_roundw
      case rel=>exact⟨k+1,false,by omega,by go_num,rfl,HX.out,hb.alloc hb.size _⟩
      case measure=>simp[intOf];omega
     ·have K:=Lib.hid fun w=>name_is N p.1 false hN1 hN2 (Bool.eq_false_iff.2 e3) w
      have HX:Hid (v=false):=by apply Lib.hid;rw[←hc];simp[okP,e1,e3]
      clear e1 e2 hc hN hT hN1 e3;go_wp2_with (go_at_call 52;((with_reducible refine(K.out _).mono ?_));rintro e w' ⟨rfl,rfl⟩);go_ret;exact⟨ret_bool HX.out.symm,hb.alloc hb.size _⟩
    ·obtain⟨t1,t2⟩:=tx_some hT e2
     have HX:Hid (v=false):=by apply Lib.hid;rw[←hc];simp[okP,e1,e2]
     clear e1 e2 hc hN hT hN1;go_wp2;go_ret;exact⟨ret_bool HX.out.symm,hb.alloc hb.size _⟩
  ·have HX:Hid (v=true):=by
    apply Lib.hid;rw[←HM.out,List.drop_eq_nil_of_le (by have:=HN.out;omega)];rfl
   go_wp2;go_ret;exact⟨ret_bool HX.out.symm,hb⟩
theorem under33:Tryz.prog.underlying 88=some (.struct (Tryz.prog.fieldsOf 88)):=by kernel_rfl
theorem held33:Tryz.prog.stoodInHeld 88=false:=by kernel_rfl
theorem fields33:(Tryz.prog.fieldsOf 88).toList.map (fun f=>(f.name,f.type,f.offset))=[("Name",9,0),("Text",9,1)]:=by kernel_rfl
def Prev (ps:List Pt) (k:Nat) (x:Bool):Prop:=(k=0→x=false)∧(0<k→∃ q,ps[k - 1]?=some q∧x=decide (q.1=[]))
theorem rmay_any (A:Option Addr) (n c:Nat) (ps:List Pt) (w:World) (h:Rd w.heap.size w A n ps) (hmax:n≤1000000) (hl:∀ p∈ps,p.1.length≤1000000):
  Calls Tryz.prog 48 #[.slice A n c] w fun e w'=>e= .returned (.bool (may false ps))∧Below w.heap.size w w':=by
 obtain⟨v,hv⟩:∃ v,v=may false ps:=⟨_,rfl⟩;rw[←hv];have HV:=Lib.hid hv;have HN:=Lib.hid h.1;have HR:=Lib.hid h;have HL:=Lib.hid hl;clear hv h hl;go_enter Tryz.func48,Tryz.ntmps48;go_wp2
 go_loopw [3] (fun i wr=>∃ (k m:Nat) (x:Bool),k≤n∧i= .int .i64 k∧Prev ps k x∧may x (ps.drop k)=v∧wr=w.drewN m) (fun i _=>n - (intOf i).toNat)
 case atStart=>exact⟨0,0,false,by omega,rfl,⟨fun _=>rfl,fun h=>by omega⟩,HV.out.symm,rfl⟩
 case round=>
  obtain⟨k,m,x,hk,rfl,hx,hm,rfl⟩:=hrel;have HM:=Lib.hid hm;have HX:=Lib.hid hx;clear hm hx;by_cases a:k<n
  ·obtain⟨ad,rfl,hr⟩:=HR.out.2 (by omega)
   obtain⟨p,hp⟩:∃ p,ps[k]?=some p:=⟨_,List.getElem?_eq_getElem (by have:=HN.out;omega)⟩;obtain⟨c0,c1⟩:=hr.at_ hp
   obtain⟨N,hN⟩:∃ N:ByteArray,N=⟨p.1.toArray⟩:=⟨_,rfl⟩;obtain⟨T,hT⟩:∃ T:ByteArray,T=⟨p.2.toArray⟩:=⟨_,rfl⟩;rw[←hN] at c0;rw[←hT] at c1;have hN1:N.data.toList=p.1:=by rw[hN]
   have hN2:N.size≤4611686018427387904:=by
    have:=HL.out p (List.mem_of_getElem? hp);have e:=len_data N;rw[hN1] at e;omega
   have hc:(okP x p && may (decide (p.1=[])) (ps.drop (k+1)))=v:=by have:=HM.out;rw[drop_pt hp,may_cons] at this;exact this
   have HP:Hid (Prev ps (k+1) (decide (p.1=[]))):=Lib.hid ⟨fun h=>by omega,fun _=>⟨p,hp,rfl⟩⟩;have HRr:=Lib.hid hr;clear hp hr;by_cases e1:p.1=[]
   ·obtain⟨n1,n2⟩:=tx_nil hN e1
    rw[e1] at HP;by_cases e2:p.2=[]
    ·obtain⟨t1,t2⟩:=tx_nil hT e2
     have HX:Hid (v=false):=by apply Lib.hid;rw[←hc];simp[okP,e1,e2]
     clear e1 e2 hc hN hT hN1;go_wp2;go_quiet (fail);go_wp2;go_ret;exact⟨ret_bool HX.out.symm,(by first | exact below_drewN (Below.refl _ _) _ | exact below_drewN (below_drewN (Below.refl _ _) _) _)⟩
    ·obtain⟨t1,t2⟩:=tx_some hT e2
     by_cases hk0:k=0
     ·have hx:=HX.out.1 hk0
      subst hx;have hk0':¬ 0<(k:Int):=by omega
      have HY:Hid (may true (ps.drop (k+1))=v):=by apply Lib.hid;rw[←hc];simp[okP,e1,e2]
      clear e1 e2 hc hN hT hN1 hk0;go_wp2;go_quiet (fail);go_wp2
      go_roundw
      case rel=>exact⟨k+1,_,true,by omega,by go_num,HP.out,HY.out,rfl⟩
      case measure=>simp[intOf];omega
     ·have hk0':0<k:=by omega
      obtain⟨q,hq,hxq⟩:=HX.out.2 hk0';obtain⟨d0,_⟩:=HRr.out.at_ hq
      obtain⟨M,hM⟩:∃ M:ByteArray,M=⟨q.1.toArray⟩:=⟨_,rfl⟩;rw[←hM] at d0;have hk1:0≤(k:Int) - 1:=by omega
      clear hk0;by_cases e3:q.1=[]
      ·obtain⟨m1,m2⟩:=tx_nil hM e3
       have HY:Hid (v=false):=by apply Lib.hid;rw[←hc];simp[okP,e1,hxq,e3]
       clear e1 e2 hc hN hT hN1 hM hq hxq e3;go_wp2;go_quiet (fail);go_wp2;go_ret;exact⟨ret_bool HY.out.symm,(by first | exact below_drewN (Below.refl _ _) _ | exact below_drewN (below_drewN (Below.refl _ _) _) _)⟩
      ·obtain⟨m1,m2⟩:=tx_some hM e3
       have HY:Hid (may true (ps.drop (k+1))=v):=by apply Lib.hid;rw[←hc];simp[okP,e1,e2,hxq,e3]
       clear e1 e2 hc hN hT hN1 hM hq hxq e3;go_wp2;go_quiet (fail);go_wp2
       go_roundw
       case rel=>exact⟨k+1,_,true,by omega,by go_num,HP.out,HY.out,rfl⟩
       case measure=>simp[intOf];omega
   ·obtain⟨n1,n2⟩:=tx_some hN e1
    have HP:Hid (Prev ps (k+1) false):=by apply Lib.hid;have:=HP.out;simpa[e1] using this
    by_cases e2:p.2=[]
    ·obtain⟨t1,t2⟩:=tx_nil hT e2
     by_cases e3:isName p.1=true
     ·have K:=Lib.hid fun w=>rname_is N p.1 true hN1 hN2 e3 w
      have HX:Hid (may false (ps.drop (k+1))=v):=by apply Lib.hid;rw[←hc];simp[okP,e1,e2,e3]
      clear e1 e2 hc hN hT hN1 e3;go_wp2;go_quiet (fail);go_wp2_with (go_at_call 26;((with_reducible refine(K.out _).mono ?_));rintro e w' ⟨rfl,rfl⟩)
      all_goals
       go_roundw
       case rel=>exact⟨k+1,_,false,by omega,by go_num,HP.out,HX.out,rfl⟩
       case measure=>simp[intOf];omega
     ·have K:=Lib.hid fun w=>rname_is N p.1 false hN1 hN2 (Bool.eq_false_iff.2 e3) w
      have HX:Hid (v=false):=by apply Lib.hid;rw[←hc];simp[okP,e1,e3]
      clear e1 e2 hc hN hT hN1 e3;go_wp2;go_quiet (fail);go_wp2_with (go_at_call 26;((with_reducible refine(K.out _).mono ?_));rintro e w' ⟨rfl,rfl⟩);go_ret;exact⟨ret_bool HX.out.symm,(by first | exact below_drewN (Below.refl _ _) _ | exact below_drewN (below_drewN (Below.refl _ _) _) _)⟩
    ·obtain⟨t1,t2⟩:=tx_some hT e2
     have HX:Hid (v=false):=by apply Lib.hid;rw[←hc];simp[okP,e1,e2]
     clear e1 e2 hc hN hT hN1;go_wp2;go_quiet (fail);go_wp2;go_ret;exact⟨ret_bool HX.out.symm,(by first | exact below_drewN (Below.refl _ _) _ | exact below_drewN (below_drewN (Below.refl _ _) _) _)⟩
  ·have HX:Hid (v=true):=by
    apply Lib.hid;rw[←HM.out,List.drop_eq_nil_of_le (by have:=HN.out;omega)];rfl
   go_wp2;go_ret;exact⟨ret_bool HX.out.symm,(by first | exact below_drewN (Below.refl _ _) _ | exact below_drewN (below_drewN (Below.refl _ _) _) _)⟩
section
section
variable {P:Program} (w:World)
theorem step_append_own {ops:Array Oper} {o:Oper} {a:Act} {K:Act→World→Prop} {Q:Exit→Act→World→Prop} {E:Prop} (hgd:o.guard=none) (s x:Operand) (t:TypeId)
  (ho:o.op= .call { callee:= .builtin .append,args:=#[s,x],argTypes:=#[t,t] })
  (base:Nat) (e:TypeId) (i:TypeInfo) (z:Value) (size bytes:Nat) (ht:P.underlying t=some (.slice e)) (hi:P.info? e=some i) (hz:i.zero=some z)
  (hsize:i.size=size) (hby:i.bytes=bytes) (hzs:z.cells.size=size) (hsz:0<size)
  (v:Value) (n:Nat) (xs:List Value) (hs:a.eval s=v) (hown:w.ownsRow base e size v n xs)
  (ad:Addr) (m c:Nat) (news:List Value) (hx:a.eval x= .slice (some ad) m c) (hl:news.length=m * size) (hnews:∀ j u,news[j]?=some u→w.cell? (ad.add j)=some u) (h1:∀ u∈news,u.oneCell'=true)
  (h63:n+m≤maxLen) (hbytes:(n+m) * bytes≤140737488355328) (hbase:base≤w.heap.size)
  (h:∀ v' w',w'.ownsRow base e size v' (n+m) (xs++news)→w.grownBy w' v.ownBlock→(v'= .slice none 0 0 ↔ v= .slice none 0 0∧m=0)→K (a.put o.dst v') w'):
  if Region.wanted o (yielded ops a.tmps)=true then Oper.wp P o a w K Q else E:=by
 have hw:Region.wanted o (yielded ops a.tmps)=true:=by simp[Region.wanted,hgd]
 rw[if_pos hw];exact wp_append_own w s x t ho base e i z size bytes ht hi hz hsize hby hzs hsz v n xs hs hown ad m c news hx hl hnews h1 h63 hbytes hbase h
end
theorem Two2.bytes {B:Nat} {w0 w w':World} {vp vt v':Value} {ps:List Pt} {t:Bs} (u:Bs) (h:Two2 B w0 w vp vt ps t)
  (ho:w'.ownsRow B 5 1 v' (t.length+u.length) (byteCells t++byteCells u)) (hg:w.grownBy w' vt.ownBlock):Two2 B w0 w' vp v' ps (t++u):=
 ⟨h.parts.kept hg (own_ne h.parts h.text (by decide)),by rw[List.length_append];simpa[byteCells,Lib.byteCells] using ho,h.below.grown hg h.size (fun k hk=>(h.text.lt k hk).1),Nat.le_trans h.size hg.size⟩
theorem bytes_one (u:Bs):∀ x∈byteCells u,x.oneCell'=true:=by
 intro x hx;simp only[byteCells,Lib.byteCells,List.mem_map] at hx;obtain⟨b,_,rfl⟩:=hx;rfl
def Wrote (B:Nat) (w0 w:World) (vt:Value) (t:Bs) (e:Ending) (w':World):Prop:=∃ v',e= .returned v'∧Two2 B w0 w' (.slice none 0 0) v' [] t∧w.grownBy w' vt.ownBlock
theorem gb_trans {a b c:World} {row:Option Nat} (h:a.grownBy b row) (k:b.grownBy c row):a.grownBy c row:=
 ⟨k.os.trans h.os,k.tape.trans h.tape,k.output.trans h.output,Nat.le_trans h.size k.size,fun i hi hn=>(k.block i (Nat.lt_of_lt_of_le hi h.size) hn).trans (h.block i hi hn)⟩
theorem gb_drew (w:World) (row:Option Nat):w.grownBy w.drew row:=⟨rfl,rfl,rfl,Nat.le_refl _,fun _ _ _=>rfl⟩
theorem abyte_plain (B:Nat) (w0 w:World) (vt:Value) (t:Bs) (c:UInt8) (ht:t.length≤1000000) (hp:plainB c=true) (h:Two2 B w0 w (.slice none 0 0) vt [] t):
  Calls Tryz.prog 107 #[vt,.int .u8 c.toNat] w (Wrote B w0 w vt (t++prB c)):=by
 have H:=Lib.hid h;have K:=Lib.hid fun w=>plain_any c w
 rw[hp] at K;have e:prB c=[c]:=by unfold prB;rw[if_pos hp]
 rw[e];obtain⟨j0,hj,hy0,hy1,hy2⟩:=info_parts info5;clear h hp e;go_enter Tryz.func107,Tryz.ntmps107;go_wp2_with (first | (go_at_call 131;((with_reducible refine(K.out _).mono ?_));rintro e w1 ⟨rfl,rfl⟩) | (at_builtin;refine wpList_append_own _ rfl (.tmp 8) (.tmp 10) 81 rfl B 5 j0 (.int .u8 0) 1 1 Tryz.underlying81 hj hy0 hy1 hy2 rfl (by decide) _ _ _ rfl (H.out.text.alloc _) ⟨w.heap.size,0,none⟩ 1 1 [.int .u8 c.toNat] rfl rfl (fun j u hu=>new_cells w 5 #[.int .u8 c.toNat] j u hu) (one_one _) (by unfold maxLen;omega) (by omega) (H.out.alloc _).size ?_;intro v2 w3 hown' hgrow _));go_ret;exact⟨_,rfl,(H.out.alloc _).bytes [c] hown' hgrow,gb_trans (World.grownBy_alloc w _ _) hgrow⟩
theorem idx_is (set:ByteArray) (c:UInt8) (v:Int) (h:Lib.indexByte set.data.toList c=v) (w:World):
  Calls Tryz.prog 132 #[.string set,.int .u8 (c.toNat:Nat)] w fun e w'=>e= .returned (.int .i64 v)∧w=w':=
 (Tryz.strings_IndexByte set (c.toNat:Nat) w).mono fun e w' ⟨he,hw⟩=>⟨by rw[he,←h];simp,hw.symm⟩
theorem abyte_esc (B:Nat) (w0 w:World) (vt:Value) (t:Bs) (c d:UInt8) (j:Int) (ht:t.length≤1000000) (hp:plainB c=false) (hpr:prB c=[92,d]) (hj:Lib.indexByte escSet.data.toList c=j)
  (hd:(j=0∧d=110)∨(j=1∧d=114)∨(j=2∧d=116)∨(j=3∧d=34)∨(j=4∧d=92)∨(j=5∧d=36)) (h:Two2 B w0 w (.slice none 0 0) vt [] t):
  Calls Tryz.prog 107 #[vt,.int .u8 c.toNat] w (Wrote B w0 w vt (t++prB c)):=by
 have H:=Lib.hid h;have K:=Lib.hid fun w=>plain_any c w
 rw[hp] at K;rw[hpr];have K2:Hid (∀ w,Calls Tryz.prog 132 #[.string ⟨#[10,13,9,34,92,36]⟩,.int .u8 (c.toNat:Nat)] w fun e w'=>e= .returned (.int .i64 j)∧w=w'):=Lib.hid fun w=>idx_is escSet c j hj w
 obtain⟨j0,hj0,hy0,hy1,hy2⟩:=info_parts info5;clear h hp hpr hj
 rcases hd with ⟨rfl,rfl⟩ | ⟨rfl,rfl⟩ | ⟨rfl,rfl⟩ | ⟨rfl,rfl⟩ | ⟨rfl,rfl⟩ | ⟨rfl,rfl⟩
 ·go_enter Tryz.func107,Tryz.ntmps107
  go_wp2_with (first | (go_at_call 131;((with_reducible refine(K.out _).mono ?_));rintro e w1 ⟨rfl,rfl⟩) | (go_at_call 132;((with_reducible refine(K2.out _).mono ?_));rintro e w1 ⟨rfl,rfl⟩) | (at_builtin;refine wpList_append_own _ rfl (.tmp 16) (.tmp 19) 81 rfl B 5 j0 (.int .u8 0) 1 1 Tryz.underlying81 hj0 hy0 hy1 hy2 rfl (by decide) _ _ _ rfl (H.out.text.alloc _) ⟨w.heap.size,0,none⟩ 2 2 (byteCells [92,110]) rfl rfl (fun j u hu=>new_cells w 5 #[.int .u8 92,.int .u8 110] j u hu) (bytes_one _) (by unfold maxLen;omega) (by omega) (H.out.alloc _).size ?_;intro v2 w3 hown' hgrow _));go_ret;exact⟨_,rfl,(H.out.alloc _).bytes [92,110] hown' hgrow,gb_trans (World.grownBy_alloc w _ _) hgrow⟩
 ·go_enter Tryz.func107,Tryz.ntmps107
  go_wp2_with (first | (go_at_call 131;((with_reducible refine(K.out _).mono ?_));rintro e w1 ⟨rfl,rfl⟩) | (go_at_call 132;((with_reducible refine(K2.out _).mono ?_));rintro e w1 ⟨rfl,rfl⟩) | (at_builtin;refine wpList_append_own _ rfl (.tmp 16) (.tmp 19) 81 rfl B 5 j0 (.int .u8 0) 1 1 Tryz.underlying81 hj0 hy0 hy1 hy2 rfl (by decide) _ _ _ rfl (H.out.text.alloc _) ⟨w.heap.size,0,none⟩ 2 2 (byteCells [92,114]) rfl rfl (fun j u hu=>new_cells w 5 #[.int .u8 92,.int .u8 114] j u hu) (bytes_one _) (by unfold maxLen;omega) (by omega) (H.out.alloc _).size ?_;intro v2 w3 hown' hgrow _));go_ret;exact⟨_,rfl,(H.out.alloc _).bytes [92,114] hown' hgrow,gb_trans (World.grownBy_alloc w _ _) hgrow⟩
 ·go_enter Tryz.func107,Tryz.ntmps107
  go_wp2_with (first | (go_at_call 131;((with_reducible refine(K.out _).mono ?_));rintro e w1 ⟨rfl,rfl⟩) | (go_at_call 132;((with_reducible refine(K2.out _).mono ?_));rintro e w1 ⟨rfl,rfl⟩) | (at_builtin;refine wpList_append_own _ rfl (.tmp 16) (.tmp 19) 81 rfl B 5 j0 (.int .u8 0) 1 1 Tryz.underlying81 hj0 hy0 hy1 hy2 rfl (by decide) _ _ _ rfl (H.out.text.alloc _) ⟨w.heap.size,0,none⟩ 2 2 (byteCells [92,116]) rfl rfl (fun j u hu=>new_cells w 5 #[.int .u8 92,.int .u8 116] j u hu) (bytes_one _) (by unfold maxLen;omega) (by omega) (H.out.alloc _).size ?_;intro v2 w3 hown' hgrow _));go_ret;exact⟨_,rfl,(H.out.alloc _).bytes [92,116] hown' hgrow,gb_trans (World.grownBy_alloc w _ _) hgrow⟩
 ·go_enter Tryz.func107,Tryz.ntmps107
  go_wp2_with (first | (go_at_call 131;((with_reducible refine(K.out _).mono ?_));rintro e w1 ⟨rfl,rfl⟩) | (go_at_call 132;((with_reducible refine(K2.out _).mono ?_));rintro e w1 ⟨rfl,rfl⟩) | (at_builtin;refine wpList_append_own _ rfl (.tmp 16) (.tmp 19) 81 rfl B 5 j0 (.int .u8 0) 1 1 Tryz.underlying81 hj0 hy0 hy1 hy2 rfl (by decide) _ _ _ rfl (H.out.text.alloc _) ⟨w.heap.size,0,none⟩ 2 2 (byteCells [92,34]) rfl rfl (fun j u hu=>new_cells w 5 #[.int .u8 92,.int .u8 34] j u hu) (bytes_one _) (by unfold maxLen;omega) (by omega) (H.out.alloc _).size ?_;intro v2 w3 hown' hgrow _));go_ret;exact⟨_,rfl,(H.out.alloc _).bytes [92,34] hown' hgrow,gb_trans (World.grownBy_alloc w _ _) hgrow⟩
 ·go_enter Tryz.func107,Tryz.ntmps107
  go_wp2_with (first | (go_at_call 131;((with_reducible refine(K.out _).mono ?_));rintro e w1 ⟨rfl,rfl⟩) | (go_at_call 132;((with_reducible refine(K2.out _).mono ?_));rintro e w1 ⟨rfl,rfl⟩) | (at_builtin;refine wpList_append_own _ rfl (.tmp 16) (.tmp 19) 81 rfl B 5 j0 (.int .u8 0) 1 1 Tryz.underlying81 hj0 hy0 hy1 hy2 rfl (by decide) _ _ _ rfl (H.out.text.alloc _) ⟨w.heap.size,0,none⟩ 2 2 (byteCells [92,92]) rfl rfl (fun j u hu=>new_cells w 5 #[.int .u8 92,.int .u8 92] j u hu) (bytes_one _) (by unfold maxLen;omega) (by omega) (H.out.alloc _).size ?_;intro v2 w3 hown' hgrow _));go_ret;exact⟨_,rfl,(H.out.alloc _).bytes [92,92] hown' hgrow,gb_trans (World.grownBy_alloc w _ _) hgrow⟩
 ·go_enter Tryz.func107,Tryz.ntmps107
  go_wp2_with (first | (go_at_call 131;((with_reducible refine(K.out _).mono ?_));rintro e w1 ⟨rfl,rfl⟩) | (go_at_call 132;((with_reducible refine(K2.out _).mono ?_));rintro e w1 ⟨rfl,rfl⟩) | (at_builtin;refine wpList_append_own _ rfl (.tmp 16) (.tmp 19) 81 rfl B 5 j0 (.int .u8 0) 1 1 Tryz.underlying81 hj0 hy0 hy1 hy2 rfl (by decide) _ _ _ rfl (H.out.text.alloc _) ⟨w.heap.size,0,none⟩ 2 2 (byteCells [92,36]) rfl rfl (fun j u hu=>new_cells w 5 #[.int .u8 92,.int .u8 36] j u hu) (bytes_one _) (by unfold maxLen;omega) (by omega) (H.out.alloc _).size ?_;intro v2 w3 hown' hgrow _));go_ret;exact⟨_,rfl,(H.out.alloc _).bytes [92,36] hown' hgrow,gb_trans (World.grownBy_alloc w _ _) hgrow⟩
theorem hexC_at:∀ n:Nat,n<16→∀ h:n<hexSet.size,hexSet[n]=hexC n:=by decide+kernel
theorem Two2.drew {B:Nat} {w0 w:World} {vp vt:Value} {ps:List Pt} {t:Bs} (h:Two2 B w0 w vp vt ps t):Two2 B w0 w.drew vp vt ps t:=⟨h.parts,h.text,h.below.drew,h.size⟩
theorem and15:∀ n:Nat,n<256→bits .and .u8 (n:Int) 15=((n % 16:Nat):Int):=by decide+kernel
theorem abyte_hex (B:Nat) (w0 w:World) (vt:Value) (t:Bs) (c:UInt8) (ht:t.length≤1000000) (hp:plainB c=false) (hpr:prB c=[92,120,hexC (c.toNat / 16),hexC (c.toNat % 16)]) (hj:Lib.indexByte escSet.data.toList c= -1) (h:Two2 B w0 w (.slice none 0 0) vt [] t):
  Calls Tryz.prog 107 #[vt,.int .u8 c.toNat] w (Wrote B w0 w vt (t++prB c)):=by
 have H:=Lib.hid h;have K:=Lib.hid fun w=>plain_any c w
 rw[hp] at K;rw[hpr];have K2:Hid (∀ w,Calls Tryz.prog 132 #[.string ⟨#[10,13,9,34,92,36]⟩,.int .u8 (c.toNat:Nat)] w fun e w'=>e= .returned (.int .i64 (-1))∧w=w'):=Lib.hid fun w=>idx_is escSet c _ hj w
 obtain⟨j0,hj0,hy0,hy1,hy2⟩:=info_parts info5;clear h hp hpr hj;have c256:=UInt8.toNat_lt c;obtain⟨a,ha⟩:∃ a,a=c.toNat / 16:=⟨_,rfl⟩;obtain⟨b,hb⟩:∃ b,b=c.toNat % 16:=⟨_,rfl⟩;rw[←ha,←hb];have e1:(c.toNat:Int) / 16=(a:Int):=by omega
 have e2:bits .and .u8 (c.toNat:Int) 15=(b:Int):=by rw[and15 _ c256,hb]
 obtain⟨x,hx⟩:∃ x:Int,x=(c.toNat:Int):=⟨_,rfl⟩;rw[←hx] at K K2 e1 e2 ⊢;have x0:0≤x:=by omega
 have x1:x≤255:=by omega
 have a0:(0:Int)≤a∧(a:Int)<16:=by omega
 have b0:(0:Int)≤b∧(b:Int)<16:=by omega
 have a1:a<16:=by omega
 have b1:b<16:=by omega
 clear hx ha hb;go_enter Tryz.func107,Tryz.ntmps107;go_wp2_with (first | (go_at_call 131;((with_reducible refine(K.out _).mono ?_));rintro e w1 ⟨rfl,rfl⟩) | (go_at_call 132;((with_reducible refine(K2.out _).mono ?_));rintro e w1 ⟨rfl,rfl⟩))
 go_region_law (refine step_append_own _ rfl (.tmp 21) (.tmp 28) 81 rfl B 5 j0 (.int .u8 0) 1 1 Tryz.underlying81 hj0 hy0 hy1 hy2 rfl (by decide) _ _ _ rfl (H.out.drew.text.alloc _) ⟨w.drew.heap.size,0,none⟩ 4 4 (byteCells [92,120,hexSet[a],hexSet[b]]) rfl rfl (fun j u hu=>new_cells w.drew 5 #[.int .u8 92,.int .u8 120,.int .u8 hexSet[a].toNat,.int .u8 hexSet[b].toNat] j u hu) (bytes_one _) (by unfold maxLen;omega) (by omega) (H.out.drew.alloc _).size ?_;intro v2 w3 hown' hgrow _)
 all_goals
  go_wp2;go_ret;have hz:=(H.out.drew.alloc _).bytes [92,120,hexSet[a],hexSet[b]] hown' hgrow
  have e3:([92,120,hexSet[a],hexSet[b]]:Bs)=[92,120,hexC a,hexC b]:=by
   simp only[List.cons.injEq,true_and,and_true];exact⟨hexC_at a a1 _,hexC_at b b1 _⟩
  exact⟨_,rfl,e3 ▸ hz,gb_trans (gb_trans (gb_drew w _) (World.grownBy_alloc w.drew _ _)) hgrow⟩
theorem abyte_any (B:Nat) (w0 w:World) (vt:Value) (t:Bs) (c:UInt8) (ht:t.length≤1000000) (h:Two2 B w0 w (.slice none 0 0) vt [] t):
  Calls Tryz.prog 107 #[vt,.int .u8 c.toNat] w (Wrote B w0 w vt (t++prB c)):=by
 by_cases hp:plainB c=true
 ·exact abyte_plain B w0 w vt t c ht hp h
 ·have hp:=Bool.eq_false_iff.2 hp
  have hx:∀ c:UInt8,(plainB c=false→prB c=[92,120,hexC (c.toNat / 16),hexC (c.toNat % 16)]∧Lib.indexByte escSet.data.toList c= -1)∨
    (prB c=[92,110]∧Lib.indexByte escSet.data.toList c=0)∨(prB c=[92,114]∧Lib.indexByte escSet.data.toList c=1)∨(prB c=[92,116]∧Lib.indexByte escSet.data.toList c=2)∨
    (prB c=[92,34]∧Lib.indexByte escSet.data.toList c=3)∨(prB c=[92,92]∧Lib.indexByte escSet.data.toList c=4)∨(prB c=[92,36]∧Lib.indexByte escSet.data.toList c=5):=
   all256 _ (by decide+kernel)
  rcases hx c with h1 | ⟨h1,h2⟩ | ⟨h1,h2⟩ | ⟨h1,h2⟩ | ⟨h1,h2⟩ | ⟨h1,h2⟩ | ⟨h1,h2⟩
  ·obtain⟨h1,h2⟩:=h1 hp
   exact abyte_hex B w0 w vt t c ht hp h1 h2 h
  ·exact abyte_esc B w0 w vt t c 110 _ ht hp h1 h2 (.inl ⟨rfl,rfl⟩) h
  ·exact abyte_esc B w0 w vt t c 114 _ ht hp h1 h2 (.inr (.inl ⟨rfl,rfl⟩)) h
  ·exact abyte_esc B w0 w vt t c 116 _ ht hp h1 h2 (.inr (.inr (.inl ⟨rfl,rfl⟩))) h
  ·exact abyte_esc B w0 w vt t c 34 _ ht hp h1 h2 (.inr (.inr (.inr (.inl ⟨rfl,rfl⟩)))) h
  ·exact abyte_esc B w0 w vt t c 92 _ ht hp h1 h2 (.inr (.inr (.inr (.inr (.inl ⟨rfl,rfl⟩))))) h
  ·exact abyte_esc B w0 w vt t c 36 _ ht hp h1 h2 (.inr (.inr (.inr (.inr (.inr ⟨rfl,rfl⟩))))) h
end
end Go.Proofs.YtdobinjbejagcaaGreatDoor
