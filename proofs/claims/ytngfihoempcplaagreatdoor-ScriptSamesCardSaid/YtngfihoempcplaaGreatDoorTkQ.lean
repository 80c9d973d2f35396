import Derived.Laws.BytesArg
import Derived.Test.YtngfihoempcplaaGreatDoorTkN
import Derived.Test.YtngfihoempcplaaGreatDoorSame
import Derived.Deep.QuietTactic
import Derived.BigQuiet
import Derived.RegionTactic
import Derived.ChangeAlike
namespace Go.Proofs.YtngfihoempcplaaGreatDoor
open Go Go.RowKit
set_option maxRecDepth 100000
set_option maxHeartbeats 4000000
theorem errB_ok {t:Tok} (h:okT t=true):errB t=0∧textB t=⟨(textT t).toArray⟩:=by unfold errB textB;rw[h];exact⟨rfl,rfl⟩
theorem ret_sj {a b:ByteArray} {x y:Int} (h:b=a) (g:y=x):Ending.returned (.tuple #[.string a,.int .i64 x])= .returned (.tuple #[.string b,.int .i64 y]):=by rw[h,g]
theorem errB_no {t:Tok} (h:okT t=false):errB t=5:=by unfold errB;rw[h];rfl
theorem join_any (A:Option Addr) (n c:Nat) (ts:List Tok) (w:World) (h:RdT w.heap.size w A n ts) (hn:n≤1000000) (hf:∀ t∈ts,FitT t) (hG:Given w):
  Calls Tryz.prog 27 #[.slice A n c] w fun e w'=>e= .returned (.tuple #[.string (joinB ts),.int .i64 (joinE ts)])∧Below w.heap.size w w':=by
 have HR:=Lib.hid h;have HG:=Lib.hid hG;have HF:=Lib.hid hf;have HN:=Lib.hid h.1;obtain⟨j0,hj0,hy0,hy1,hy2⟩:=info_parts info5;clear h hG hf;go_enter Tryz.func27,Tryz.ntmps27;go_wp2
 go_loopw [4,11] (fun v i wr=>∃ (k:Nat) (O:Bs),k≤n∧i= .int .i64 k∧JI ts k O∧RowO w.heap.size w wr v O) (fun _ i _=>n - (intOf i).toNat)
 case atStart=>exact⟨0,[],by omega,rfl,JI.start ts,⟨World.ownsRow_nil _ _ _ _,World.ownsRow_nil _ _ _ _,Below.refl _ _,Nat.le_refl _⟩⟩
 case round=>
  obtain⟨k,O,hk,rfl,hJ,hO⟩:=hrel;have HJ:=Lib.hid hJ;have HO:=Lib.hid hO;have hOl:=hJ.len;clear hJ hO;by_cases a:k<n
  ·obtain⟨t,ht⟩:∃ t,ts[k]?=some t:=⟨_,List.getElem?_eq_getElem (by have:=HN.out;omega)⟩
   obtain⟨ad,A',c',rfl,⟨c0,c1,c2,c3,c4⟩,hrd⟩:=(HR.out.keep HO.out.below).at_ ht
   have hft:=HF.out t (List.mem_of_getElem? ht);have hrd0:Rd w.heap.size wr A' t.parts.length t.parts:=hrd
   have KT:Hid (∀ w',Below wr.heap.size wr w'→Calls Tryz.prog 42 #[tokA t A' c'] w' fun e w2=>e= .returned (.tuple #[.string (textB t),.int .i64 (errB t)])∧Below w'.heap.size w' w2):=Lib.hid fun w' hb=>
    text_any t A' c' w' ((hrd0.up HO.out.size).onto hb) hft (HG.out.below (HO.out.below.trans (hb.mono HO.out.size)))
   unfold tokA at KT;have HT:=Lib.hid ht;have HFT:=Lib.hid hft;obtain⟨W,hW⟩:∃ W:ByteArray,W=⟨t.word.toArray⟩:=⟨_,rfl⟩;rw[←hW] at c1 KT;obtain⟨m,hm⟩:∃ m,m=t.parts.length:=⟨_,rfl⟩;rw[←hm] at c3 KT;clear hrd hrd0 ht hft hW hm;by_cases ho:okT t=true
   ·obtain⟨e1,e2⟩:=errB_ok ho
    rw[e1,e2] at KT;obtain⟨T,hT⟩:∃ T:ByteArray,T=⟨(textT t).toArray⟩:=⟨_,rfl⟩;rw[←hT] at KT;have hTd:T.data.toList=textT t:=by rw[hT]
    have hTs:T.size≤100001:=by rw[←len_data,hTd];exact textT_len HFT.out
    have HTd:=Lib.hid hTd;have HOk:=Lib.hid ho;clear e1 e2 hT hTd ho;by_cases hl:2000<O.length
    ·rcases text_form HO.out.text with ⟨rfl,e0⟩ | ⟨g,cap,rfl,hcap⟩
     ·rw[e0] at hl;exact absurd hl (by decide)
     ·have HS:Hid (JI ts (k+1) O):=Lib.hid (HJ.out.skip HT.out HOk.out hl)
      obtain⟨q,hq⟩:∃ q,q=O.length:=⟨_,rfl⟩;have HQ:=Lib.hid hq;rw[←hq] at hl ⊢;have hl2:2000<(q:Int):=by omega
      rw[←hq] at HO hcap hOl;clear hq;go_wp2_with (go_at_call 42;((with_reducible refine(KT.out _ ((Below.refl _ _).alloc (Nat.le_refl _) _)).mono ?_));rintro e w1 ⟨rfl,hb⟩;have HB:=Lib.hid (((Below.refl wr.heap.size wr).alloc (Nat.le_refl _) _).trans (hb.mono (by simp)));clear hb)
      go_roundw
      case rel=>exact⟨k+1,O,by omega,by go_num,HS.out,by have:=HO.out.beyond HB.out;rw[HQ.out] at this ⊢;exact this⟩
      case measure=>simp[intOf];omega
    ·by_cases hk0:k=0
     ·have HS:Hid (JI ts (k+1) (O++textT t)):=Lib.hid (HJ.out.first hk0 HT.out HOk.out HFT.out hl)
      have hk1:¬ 0<k:=by omega
      have hk2:¬ (0:Int)<k:=by omega
      clear hk0;have hl2:¬ (2000:Int)<O.length:=by omega
      rcases text_form HO.out.text with ⟨rfl,e0⟩ | ⟨g,cap,rfl,hcap⟩
      ·clear e0
       go_wp2_with (first | (go_at_call 42;((with_reducible refine(KT.out _ ((Below.refl _ _).alloc (Nat.le_refl _) _)).mono ?_));rintro e w1 ⟨rfl,hb⟩;have HB:=Lib.hid (((Below.refl wr.heap.size wr).alloc (Nat.le_refl _) _).trans (hb.mono (by simp)));clear hb;have S1:=Lib.hid (HO.out.beyond HB.out)) | (at_builtin;refine Lib.wpList_append_own_string _ rfl (.tmp 32) (.tmp 33) 86 9 rfl w.heap.size 5 j0 Tryz.underlying86 Tryz.underlying9 hj0 hy0 hy1 hy2 _ _ _ rfl S1.out.text T rfl (by unfold maxLen;(try simp);omega) (by(try simp);omega) S1.out.size ?_;intro v3 w3 h3 g3 _;have S3:=Lib.hid (RowO.str (textT t) HTd.out S1.out h3 g3);clear h3 g3))
       go_roundw
       case rel=>exact⟨k+1,_,by omega,by go_num,HS.out,S3.out⟩
       case measure=>simp[intOf];omega
      ·go_wp2_with (first | (go_at_call 42;((with_reducible refine(KT.out _ ((Below.refl _ _).alloc (Nat.le_refl _) _)).mono ?_));rintro e w1 ⟨rfl,hb⟩;have HB:=Lib.hid (((Below.refl wr.heap.size wr).alloc (Nat.le_refl _) _).trans (hb.mono (by simp)));clear hb;have S1:=Lib.hid (HO.out.beyond HB.out)) | (at_builtin;refine Lib.wpList_append_own_string _ rfl (.tmp 32) (.tmp 33) 86 9 rfl w.heap.size 5 j0 Tryz.underlying86 Tryz.underlying9 hj0 hy0 hy1 hy2 _ _ _ rfl S1.out.text T rfl (by unfold maxLen;(try simp);omega) (by(try simp);omega) S1.out.size ?_;intro v3 w3 h3 g3 _;have S3:=Lib.hid (RowO.str (textT t) HTd.out S1.out h3 g3);clear h3 g3))
       go_roundw
       case rel=>exact⟨k+1,_,by omega,by go_num,HS.out,S3.out⟩
       case measure=>simp[intOf];omega
     ·have HS:Hid (JI ts (k+1) (O++[32]++textT t)):=Lib.hid (HJ.out.more (by omega) HT.out HOk.out HFT.out hl)
      have hl2:¬ (2000:Int)<O.length:=by omega
      have hk1:0<k:=by omega
      have hk2:(0:Int)<k:=by omega
      rcases text_form HO.out.text with ⟨rfl,e0⟩ | ⟨g,cap,rfl,hcap⟩
      ·clear e0
       go_wp2_with (first | (go_at_call 42;((with_reducible refine(KT.out _ ((Below.refl _ _).alloc (Nat.le_refl _) _)).mono ?_));rintro e w1 ⟨rfl,hb⟩;have HB:=Lib.hid (((Below.refl wr.heap.size wr).alloc (Nat.le_refl _) _).trans (hb.mono (by simp)));clear hb;have S1:=Lib.hid (HO.out.beyond HB.out)) | (at_builtin;refine wpList_append_own _ rfl (.tmp 29) (.tmp 30) 86 rfl w.heap.size 5 j0 (.int .u8 0) 1 1 Tryz.underlying86 hj0 hy0 hy1 hy2 rfl (by decide) _ _ _ rfl (S1.out.alloc _).text ⟨w1.heap.size,0,none⟩ 1 1 [.int .u8 32] rfl rfl (fun j u hu=>new_cells w1 5 #[.int .u8 32] j u hu) (one_one _) (by unfold maxLen;omega) (by omega) (S1.out.alloc _).size ?_;intro v2 w2 h2 g2 _;have S2:=Lib.hid ((S1.out.alloc _).bytes [32] h2 g2);clear h2 g2) | (at_builtin;refine Lib.wpList_append_own_string _ rfl (.tmp 32) (.tmp 33) 86 9 rfl w.heap.size 5 j0 Tryz.underlying86 Tryz.underlying9 hj0 hy0 hy1 hy2 _ _ _ rfl S2.out.text T rfl (by unfold maxLen;(try simp);omega) (by(try simp);omega) S2.out.size ?_;intro v3 w3 h3 g3 _;have S3:=Lib.hid (RowO.str (textT t) HTd.out S2.out h3 g3);clear h3 g3))
       go_roundw
       case rel=>exact⟨k+1,_,by omega,by go_num,HS.out,S3.out⟩
       case measure=>simp[intOf];omega
      ·go_wp2_with (first | (go_at_call 42;((with_reducible refine(KT.out _ ((Below.refl _ _).alloc (Nat.le_refl _) _)).mono ?_));rintro e w1 ⟨rfl,hb⟩;have HB:=Lib.hid (((Below.refl wr.heap.size wr).alloc (Nat.le_refl _) _).trans (hb.mono (by simp)));clear hb;have S1:=Lib.hid (HO.out.beyond HB.out)) | (at_builtin;refine wpList_append_own _ rfl (.tmp 29) (.tmp 30) 86 rfl w.heap.size 5 j0 (.int .u8 0) 1 1 Tryz.underlying86 hj0 hy0 hy1 hy2 rfl (by decide) _ _ _ rfl (S1.out.alloc _).text ⟨w1.heap.size,0,none⟩ 1 1 [.int .u8 32] rfl rfl (fun j u hu=>new_cells w1 5 #[.int .u8 32] j u hu) (one_one _) (by unfold maxLen;omega) (by omega) (S1.out.alloc _).size ?_;intro v2 w2 h2 g2 _;have S2:=Lib.hid ((S1.out.alloc _).bytes [32] h2 g2);clear h2 g2) | (at_builtin;refine Lib.wpList_append_own_string _ rfl (.tmp 32) (.tmp 33) 86 9 rfl w.heap.size 5 j0 Tryz.underlying86 Tryz.underlying9 hj0 hy0 hy1 hy2 _ _ _ rfl S2.out.text T rfl (by unfold maxLen;(try simp);omega) (by(try simp);omega) S2.out.size ?_;intro v3 w3 h3 g3 _;have S3:=Lib.hid (RowO.str (textT t) HTd.out S2.out h3 g3);clear h3 g3))
       go_roundw
       case rel=>exact⟨k+1,_,by omega,by go_num,HS.out,S3.out⟩
       case measure=>simp[intOf];omega
   ·have ho:=Bool.eq_false_iff.2 ho
    obtain⟨e1,e2⟩:=JI.bad HT.out ho;rw[errB_no ho] at KT;have H1:=Lib.hid e1;have H2:=Lib.hid e2;clear e1 e2 ho;go_wp2_with (go_at_call 42;((with_reducible refine(KT.out _ ((Below.refl _ _).alloc (Nat.le_refl _) _)).mono ?_));rintro e w1 ⟨rfl,hb⟩;have HB:=Lib.hid (((Below.refl wr.heap.size wr).alloc (Nat.le_refl _) _).trans (hb.mono (by simp)));clear hb)
    go_ret2
    exact⟨ret_sj H2.out H1.out,(HO.out.beyond HB.out).below⟩
  ·have hkn:¬ k<ts.length:=by have:=HN.out;omega
   by_cases hl:2000<O.length
   ·obtain⟨e1,e2⟩:=HJ.out.long hkn hl
    have H1:=Lib.hid e1;have H2:=Lib.hid e2;have hl2:(2000:Int)<O.length:=by omega
    rcases text_form HO.out.text with ⟨rfl,e0⟩ | ⟨g,cap,rfl,hcap⟩
    ·rw[e0] at hl;exact absurd hl (by decide)
    ·clear e1 e2 hkn
     go_wp2
     go_ret2
     exact⟨ret_sj H2.out H1.out,HO.out.below⟩
   ·obtain⟨e1,e2⟩:=HJ.out.done hkn hl
    have H1:=Lib.hid e1;have H2:=Lib.hid e2;have hl2:¬ (2000:Int)<O.length:=by omega
    rcases conv_any HO.out.text with ⟨rfl,e0⟩ | ⟨g,cap,rfl,hcv⟩
    ·have HE:=Lib.hid e0
     have hcn:(convert 86 9 (.slice none 0 0)).run Tryz.prog wr= .ok (.string ⟨#[]⟩) wr:=run_convert_bytes_nil _ 86 5 Tryz.underlying86 Tryz.underlying5 0 0 9 Tryz.underlying9;clear e1 e2 hkn e0;go_wp2
     go_ret2
     exact⟨ret_sj (H2.out.trans (by rw[HE.out])) H1.out,HO.out.below⟩
    ·obtain⟨OB,hOB⟩:∃ OB:ByteArray,OB=⟨O.toArray⟩:=⟨_,rfl⟩
     rw[←hOB] at hcv;have HOB:=Lib.hid hOB;clear e1 e2 hkn hOB;go_wp2
     go_ret2
     exact⟨ret_sj (H2.out.trans HOB.out.symm) H1.out,HO.out.below⟩
theorem neq_any (x y x' y':ByteArray) (b:Bool) (hb:b= !(x.toList==x'.toList && y.toList==y'.toList)) (w:World):(binOp .neq 81 (.agg #[.string x,.string y]) (.agg #[.string x',.string y'])).run Tryz.prog w= .ok (.bool b) w:=by
 have hf:=fields33;rw[run_neq_struct,run_equalIn_struct w 9999 81 _ _ under33 held33,hb];generalize (Tryz.prog.fieldsOf 81).toList=L at hf ⊢
 rcases L with _ | ⟨f,_ | ⟨g,_ | ⟨h,L⟩⟩⟩
 ·simp at hf
 ·simp at hf
 ·simp only[List.map_cons,List.map_nil,List.cons.injEq,Prod.mk.injEq,and_true] at hf
  obtain⟨⟨f1,f2,f3⟩,⟨g1,g2,g3⟩⟩:=hf;by_cases e1:(x.toList==x'.toList)=true
  ·by_cases e2:(y.toList==y'.toList)=true
   ·simp[Op.eqFields,f1,f2,f3,g1,g2,g3,go_sem,run_equalIn_string _ 9998 9 _ _ Tryz.underlying9,e1,e2]
   ·simp[Op.eqFields,f1,f2,f3,g1,g2,g3,go_sem,run_equalIn_string _ 9998 9 _ _ Tryz.underlying9,e1,e2]
  ·simp[Op.eqFields,f1,f2,f3,g1,g2,g3,go_sem,run_equalIn_string _ 9998 9 _ _ Tryz.underlying9,e1]
 ·simp at hf
theorem neq_pt (p q:Pt) (w:World):(binOp .neq 81 (.agg #[.string ⟨p.1.toArray⟩,.string ⟨p.2.toArray⟩]) (.agg #[.string ⟨q.1.toArray⟩,.string ⟨q.2.toArray⟩])).run Tryz.prog w= .ok (.bool (!decide (p=q))) w:=by
 refine neq_any _ _ _ _ _ ?_ w;rw[toList_data,toList_data,toList_data,toList_data]
 congr 1
 rw[Bool.eq_iff_iff];simp[Prod.ext_iff]
theorem rsame_any (A A':Option Addr) (n n' c c':Nat) (ps qs:List Pt) (w:World) (h:Rd w.heap.size w A n ps) (h':Rd w.heap.size w A' n' qs) (hmax:n≤1000000):
  Calls Tryz.prog 21 #[.slice A n c,.slice A' n' c'] w fun e w'=>e= .returned (.bool (decide (ps=qs)))∧Below w.heap.size w w':=by
 by_cases hnn:n=n'
 ·subst hnn
  obtain⟨v,hv⟩:∃ v,v=decide (ps=qs):=⟨_,rfl⟩;rw[←hv];have HV:=Lib.hid hv;have HN:=Lib.hid h.1;have HN':=Lib.hid h'.1;have HR:=Lib.hid h;have HR':=Lib.hid h';clear h h' hv;go_enter Tryz.func21,Tryz.ntmps21;go_wp2
  go_loopw [5] (fun i wr=>∃ (k m:Nat),k≤n∧i= .int .i64 k∧ps.take k=qs.take k∧wr=w.drewN m) (fun i _=>n - (intOf i).toNat)
  case atStart=>exact⟨0,0,by omega,rfl,rfl,rfl⟩
  case round=>
   obtain⟨k,m,hk,rfl,htk,rfl⟩:=hrel;have HT:=Lib.hid htk;clear htk;by_cases a:k<n
   ·obtain⟨ad,rfl,hr⟩:=HR.out.2 (by omega)
    obtain⟨ad',rfl,hr'⟩:=HR'.out.2 (by omega);obtain⟨p,hp⟩:∃ p,ps[k]?=some p:=⟨_,List.getElem?_eq_getElem (by have:=HN.out;omega)⟩;obtain⟨q,hq⟩:∃ q,qs[k]?=some q:=⟨_,List.getElem?_eq_getElem (by have:=HN'.out;omega)⟩;obtain⟨c0,c1⟩:=hr.at_ hp
    obtain⟨d0,d1⟩:=hr'.at_ hq
    have hcmp:=fun W:World=>neq_pt p q W
    by_cases e:p=q
    ·have HX:Hid (ps.take (k+1)=qs.take (k+1)):=by
      apply Lib.hid;obtain⟨i1,i2⟩:=List.getElem?_eq_some_iff.1 hp;obtain⟨j1,j2⟩:=List.getElem?_eq_some_iff.1 hq;rw[List.take_succ_eq_append_getElem i1,List.take_succ_eq_append_getElem j1,HT.out,i2,j2,e]
     rw[decide_eq_true e] at hcmp;simp only[Bool.not_true] at hcmp;clear hr hr' hp hq e;go_wp2;go_quiet (fail);go_wp2
     go_roundw
     case rel=>exact⟨k+1,_,by omega,by go_num,HX.out,rfl⟩
     case measure=>simp[intOf];omega
    ·have HX:Hid (v=false):=by
      apply Lib.hid;rw[HV.out,decide_eq_false_iff_not];rintro rfl;rw[hp] at hq;injection hq with hq;exact e hq
     rw[decide_eq_false e] at hcmp;simp only[Bool.not_false] at hcmp;clear hr hr' hp hq e;go_wp2;go_quiet (fail);go_wp2;go_ret;exact⟨ret_bool HX.out.symm,below_drewN (below_drewN (Below.refl _ _) _) _⟩
   ·have HX:Hid (v=true):=by
     apply Lib.hid;have h1:=HT.out;rw[List.take_of_length_le (by have:=HN.out;omega),List.take_of_length_le (by have:=HN'.out;omega)] at h1;rw[HV.out,decide_eq_true_iff];exact h1
    go_wp2;go_ret;exact⟨ret_bool HX.out.symm,below_drewN (Below.refl _ _) m⟩
 ·have hne:decide (ps=qs)=false:=by
   rw[decide_eq_false_iff_not];rintro rfl;exact hnn (h.1.trans h'.1.symm)
  rw[hne];have b1:((n:Int) != (n':Int))=true:=by simp;omega
  have b2:(n != n')=true:=by simpa using hnn
  clear h h' hne hnn;go_enter Tryz.func21,Tryz.ntmps21;go_wp2;go_ret;exact⟨rfl,Below.refl _ _⟩
def ReadT (w:World) (ts:List Tok) (q:Nat) (x:Int) (e:Ending) (w':World):Prop:=
 ∃ A c,e= .returned (.tuple #[.slice A ts.length c,.int .i64 q,.int .i64 x])∧RdT w'.heap.size w' A ts.length ts∧Below w.heap.size w w'
theorem postT_read {w w':World} {e:Ending} {o:Option (List Tok)} {q:Nat} {x:Int} {ts:List Tok} (ho:o.getD []=ts) (h:PostT w (o,q,x) e w'):ReadT w ts q x e w':=by
 obtain⟨v,l,he,ht,hl⟩:=h;dsimp only at hl;rw[ho] at hl;obtain⟨A,c,rfl,hr⟩:=rdt_of_own ht;have e1:l.length=ts.length:=by rw[←hl,List.length_map]
 rw[hl,e1] at hr;rw[e1] at he;exact⟨A,c,he,hr,ht.below⟩
theorem scan_read (s:ByteArray) (hs:s.size≤4000) (o:Option (List Tok)) (q:Nat) (x:Int) (ts:List Tok) (ho:o.getD []=ts) (h:scan s.data.toList=(o,q,x)) (w:World) (hG:Given w):Calls Tryz.prog 15 #[.string s] w (ReadT w ts q x):=
 (scan_any s hs w hG).mono fun e w' hp=>postT_read ho (by rw[←h];exact hp)
end Go.Proofs.YtngfihoempcplaaGreatDoor
