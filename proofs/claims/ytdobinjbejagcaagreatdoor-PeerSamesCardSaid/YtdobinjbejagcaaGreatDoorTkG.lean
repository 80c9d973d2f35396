import Derived.Test.YtdobinjbejagcaaGreatDoorTkD
import Derived.Test.YtdobinjbejagcaaGreatDoorPlainC
import Derived.Lib.ItoaLen
namespace Go.Proofs.YtdobinjbejagcaaGreatDoor
open Go Go.RowKit
set_option maxRecDepth 100000
set_option maxHeartbeats 4000000
theorem PostR.form {w w':World} {k:Nat} {R:TR} {e:Ending} (h:PostR w k R e w'):∃ (t:Tok) (A:Option Addr) (c:Nat),e= .returned (.tuple #[.agg #[.int .i64 t.kind,.string ⟨t.word.toArray⟩,.int .i64 t.n,.slice A t.parts.length c,.int .i64 t.pl],.int .i64 (posR k R),.int .i64 (errR R)])∧
  Hid (OwnP w.heap.size w' (.slice A t.parts.length c) t.parts∧∀ t' q,R= .ok t' q→t'=t)∧Below w.heap.size w w':=by
 obtain⟨t,v,rfl,ho,hb,ht⟩:=h;obtain⟨A,c,rfl,_⟩:=rd_of_own (ps:=t.parts) ho;exact⟨t,A,c,rfl,Lib.hid ⟨ho,ht⟩,hb⟩
theorem box5_post {w w1:World} {o:Obj} {k:Nat} {R:TR} {t:Tok} {A:Option Addr} {c:Nat} {z:Int} (hz:z=posR k R) (h:Hid (OwnP (w.alloc o).heap.size w1 (.slice A t.parts.length c) t.parts∧∀ t' q,R= .ok t' q→t'=t))
  (hb:Below (w.alloc o).heap.size (w.alloc o) w1) (u0 u1 u2 u3 u4:Value):
  PostR w k R (.returned (.tuple #[.agg #[.int .i64 t.kind,.string ⟨t.word.toArray⟩,.int .i64 t.n,.slice A t.parts.length c,.int .i64 t.pl],.int .i64 z,.int .i64 (errR R)])) (put5 w1 w.heap.size u0 u1 u2 u3 u4):=
 ⟨t,.slice A t.parts.length c,by rw[hz];rfl,box5_own h.out.1 _ _ _ _ _,box5_below hb _ _ _ _ _,h.out.2⟩
theorem readword_post (s:ByteArray) (k f n q:Nat) (kd:Int) (R:TR) (hR:R=wordR kd ((s.data.toList.drop f).take n) q) (i j:Int) (hi:i=f) (hj:j=((f+n:Nat):Int)) (hf:f+n≤s.size) (hq:f+n=k+q) (hs:s.size≤1000000) (w:World):
  Calls Tryz.prog 88 #[.string s,.int .i64 k,.int .i64 kd,.int .i64 i,.int .i64 j] w (PostR w k R):=by
 subst hi hj hR;exact(readword_any s k f n kd hf hs w).mono fun e w' ⟨he,hb⟩=>by rw[he];exact resW_post hb hq
theorem head_low (c:UInt8) (h:isLow c=true):c≠34∧isDig c=false∧c≠36∧c≠45:=by
 have hx:∀ c:UInt8,isLow c=true→c≠34∧isDig c=false∧c≠36∧c≠45:=all256 _ (by decide+kernel);exact hx c h
theorem readtoken_text (s:ByteArray) (k:Nat) (hk:k<s.size) (hs:s.size≤4000) (h34:s[k]=34) (w:World):
  Calls Tryz.prog 57 #[.string s,.int .i64 k] w (PostR w k (tokR (s.data.toList.drop k))):=by
 have hR:tokR (s.data.toList.drop k)=textR (s.data.toList.drop k):=by
  rw[drop_at s k hk];unfold tokR;dsimp only;rw[if_pos h34]
 rw[hR];have K:=Lib.hid fun w=>readtext_any s k hk hs w
 generalize textR (s.data.toList.drop k)=R at K ⊢;have b34:((s[k].toNat:Int)==34)=true:=byte_eq (n:=34) h34 (by omega);clear hR h34;go_enter Tryz.func57,Tryz.ntmps57;go_wp2_with (go_at_call 84;((with_reducible refine(K.out _).mono ?_));rintro e w' hp;obtain⟨t,A,c,rfl,HO,hb⟩:=hp.form;obtain⟨hc,hfz⟩:=bcell hb;have hz:=size_le hb;have HB:=Lib.hid hb;clear hb hp);refine bodyPost_ret (v:= .tuple #[.agg #[.int .i64 t.kind,.string ⟨t.word.toArray⟩,.int .i64 t.n,.slice A t.parts.length c,.int .i64 t.pl],.int .i64 (posR k R),.int .i64 (errR R)]) (by simp[results,Tryz.results57,go_sem,hc]) rfl (box5_post rfl HO HB.out _ _ _ _ _)
theorem readtoken_num (s:ByteArray) (k:Nat) (hk:k<s.size) (hs:s.size≤4000) (hd:isDig s[k]=true) (h34:s[k]≠34) (w:World) (hG:Given w):
  Calls Tryz.prog 57 #[.string s,.int .i64 k] w (PostR w k (tokR (s.data.toList.drop k))):=by
 have hR:tokR (s.data.toList.drop k)=numT (s.data.toList.drop k):=by
  rw[drop_at s k hk];unfold tokR;dsimp only;rw[if_neg h34,if_pos hd]
 rw[hR];have K:=Lib.hid fun w hg=>readnumber_any s k hk hd hs w hg
 generalize numT (s.data.toList.drop k)=R at K ⊢;have b34:((s[k].toNat:Int)==34)=false:=byte_ne (n:=34) h34 (by omega);have KD:=Lib.hid fun w=>tdig_any s[k] w
 rw[hd] at KD;have HG:=Lib.hid hG;clear hR h34 hd hG;go_enter Tryz.func57,Tryz.ntmps57;go_wp2_with (first | (go_at_call 85;((with_reducible refine(KD.out _).mono ?_));rintro e w' ⟨rfl,rfl⟩) | (go_at_call 86;((with_reducible refine(K.out _ (HG.out.below ((Below.refl _ _).alloc (Nat.le_refl _) _))).mono ?_));rintro e w' hp;obtain⟨t,A,c,rfl,HO,hb⟩:=hp.form;obtain⟨hc,hfz⟩:=bcell hb;have hz:=size_le hb;have HB:=Lib.hid hb;clear hb hp));refine bodyPost_ret (v:= .tuple #[.agg #[.int .i64 t.kind,.string ⟨t.word.toArray⟩,.int .i64 t.n,.slice A t.parts.length c,.int .i64 t.pl],.int .i64 (posR k R),.int .i64 (errR R)]) (by simp[results,Tryz.results57,go_sem,hc]) rfl (box5_post rfl HO HB.out _ _ _ _ _)
theorem readtoken_word (s:ByteArray) (k:Nat) (hk:k<s.size) (hs:s.size≤4000) (hl:isLow s[k]=true) (w:World):
  Calls Tryz.prog 57 #[.string s,.int .i64 k] w (PostR w k (tokR (s.data.toList.drop k))):=by
 obtain⟨h34,hd,h36,h45⟩:=head_low _ hl;obtain⟨R,hR⟩:∃ R,R=tokR (s.data.toList.drop k):=⟨_,rfl⟩;rw[←hR]
 replace hR:R=wordR 1 ((s.data.toList.drop k).take (runL isIn (s.data.toList.drop k))) (runL isIn (s.data.toList.drop k)):=by
  rw[hR]
  conv=>lhs;rw[drop_at s k hk]
  unfold tokR;dsimp only;rw[if_neg h34,if_neg (by rw[hd];decide),if_pos hl,←drop_at s k hk]
 have KR:=Lib.hid fun w=>runend_in s k (by omega) (by omega) w
 have hrun:=runL_le isIn (s.data.toList.drop k);rw[List.length_drop,len_data] at hrun;generalize runL isIn (s.data.toList.drop k)=n at KR hrun hR;have K:=Lib.hid fun w=>readword_post s k k n n 1 R hR k ((k+n:Nat):Int) rfl rfl (by omega) rfl (by omega) w
 have b34:((s[k].toNat:Int)==34)=false:=byte_ne (n:=34) h34 (by omega);have KD:=Lib.hid fun w=>tdig_any s[k] w
 rw[hd] at KD;have KL:=Lib.hid fun w=>tlow_any s[k] w
 rw[hl] at KL;obtain⟨q,hq⟩:∃ q,q=k+n:=⟨_,rfl⟩;rw[←hq] at KR K;clear hR h34 hd hl h36 h45 hrun hq;go_enter Tryz.func57,Tryz.ntmps57;go_wp2_with (first | (go_at_call 85;((with_reducible refine(KD.out _).mono ?_));rintro e w' ⟨rfl,rfl⟩) | (go_at_call 87;((with_reducible refine(KL.out _).mono ?_));rintro e w' ⟨rfl,rfl⟩) | (go_at_call 82;((with_reducible refine(KR.out _).mono ?_));rintro e w' ⟨rfl,rfl⟩) | (go_at_call 88;((with_reducible refine(K.out _).mono ?_));rintro e w' hp;obtain⟨t,A,c,rfl,HO,hb⟩:=hp.form;obtain⟨hc,hfz⟩:=bcell hb;have hz:=size_le hb;have HB:=Lib.hid hb;clear hb hp));refine bodyPost_ret (v:= .tuple #[.agg #[.int .i64 t.kind,.string ⟨t.word.toArray⟩,.int .i64 t.n,.slice A t.parts.length c,.int .i64 t.pl],.int .i64 (posR k R),.int .i64 (errR R)]) (by simp[results,Tryz.results57,go_sem,hc]) rfl (box5_post rfl HO HB.out _ _ _ _ _)
theorem readtoken_var (s:ByteArray) (k:Nat) (hk:k<s.size) (hs:s.size≤4000) (h36:s[k]=36) (w:World):
  Calls Tryz.prog 57 #[.string s,.int .i64 k] w (PostR w k (tokR (s.data.toList.drop k))):=by
 have hd:isDig s[k]=false:=by rw[h36];decide
 have hl:isLow s[k]=false:=by rw[h36];decide
 obtain⟨R,hR⟩:∃ R,R=tokR (s.data.toList.drop k):=⟨_,rfl⟩;rw[←hR]
 replace hR:R=wordR 6 ((s.data.toList.drop (k+1)).take (runL isIn (s.data.toList.drop (k+1)))) (runL isIn (s.data.toList.drop (k+1))+1):=by
  rw[hR]
  conv=>lhs;rw[drop_at s k hk]
  unfold tokR;dsimp only;rw[if_neg (by rw[h36];decide),if_neg (by rw[hd];decide),if_neg (by rw[hl];decide),if_pos h36]
 have KR:=Lib.hid fun w=>runend_in s (k+1) (by omega) (by omega) w
 have hrun:=runL_le isIn (s.data.toList.drop (k+1));rw[List.length_drop,len_data] at hrun;generalize runL isIn (s.data.toList.drop (k+1))=n at KR hrun hR;have K:=Lib.hid fun w=>readword_post s k (k+1) n (n+1) 6 R hR ((k:Int)+1) ((k+1+n:Nat):Int) (by omega) rfl (by omega) (by omega) (by omega) w
 have KR:Hid (∀ w,Calls Tryz.prog 82 #[.string s,.int .i64 ((k:Int)+1),.func (.func 89) #[] #[]] w fun e w'=>e= .returned (.int .i64 ((k+1+n:Nat):Int))∧w=w'):=Lib.hid fun w=>KR.out w
 have b34:((s[k].toNat:Int)==34)=false:=byte_ne (n:=34) (by rw[h36];decide) (by omega);have b36:((s[k].toNat:Int)==36)=true:=byte_eq (n:=36) h36 (by omega);have KD:=Lib.hid fun w=>tdig_any s[k] w
 rw[hd] at KD;have KL:=Lib.hid fun w=>tlow_any s[k] w
 rw[hl] at KL;obtain⟨q,hq⟩:∃ q,q=k+1+n:=⟨_,rfl⟩;rw[←hq] at KR K;clear hR hd hl h36 hrun hq;go_enter Tryz.func57,Tryz.ntmps57;go_wp2_with (first | (go_at_call 85;((with_reducible refine(KD.out _).mono ?_));rintro e w' ⟨rfl,rfl⟩) | (go_at_call 87;((with_reducible refine(KL.out _).mono ?_));rintro e w' ⟨rfl,rfl⟩) | (go_at_call 82;((with_reducible refine(KR.out _).mono ?_));rintro e w' ⟨rfl,rfl⟩) | (go_at_call 88;((with_reducible refine(K.out _).mono ?_));rintro e w' hp;obtain⟨t,A,c,rfl,HO,hb⟩:=hp.form;obtain⟨hc,hfz⟩:=bcell hb;have hz:=size_le hb;have HB:=Lib.hid hb;clear hb hp));refine bodyPost_ret (v:= .tuple #[.agg #[.int .i64 t.kind,.string ⟨t.word.toArray⟩,.int .i64 t.n,.slice A t.parts.length c,.int .i64 t.pl],.int .i64 (posR k R),.int .i64 (errR R)]) (by simp[results,Tryz.results57,go_sem,hc]) rfl (box5_post rfl HO HB.out _ _ _ _ _)
theorem readtoken_flag (s:ByteArray) (k:Nat) (hk:k+1<s.size) (hs:s.size≤4000) (h45:s[k]=45) (hl1:isLow s[k+1]=true) (w:World):
  Calls Tryz.prog 57 #[.string s,.int .i64 k] w (PostR w k (tokR (s.data.toList.drop k))):=by
 have hd:isDig s[k]=false:=by rw[h45];decide
 have hl:isLow s[k]=false:=by rw[h45];decide
 have hlow:lowHead (s.data.toList.drop (k+1))=true:=by rw[drop_at s (k+1) hk];exact hl1
 obtain⟨R,hR⟩:∃ R,R=tokR (s.data.toList.drop k):=⟨_,rfl⟩;rw[←hR]
 replace hR:R=wordR 5 ((s.data.toList.drop (k+1)).take (runL isLow (s.data.toList.drop (k+1)))) (runL isLow (s.data.toList.drop (k+1))+1):=by
  rw[hR]
  conv=>lhs;rw[drop_at s k (by omega)]
  unfold tokR;dsimp only;rw[if_neg (by rw[h45];decide),if_neg (by rw[hd];decide),if_neg (by rw[hl];decide),if_neg (by rw[h45];decide),if_pos ⟨h45,hlow⟩]
 have KR:=Lib.hid fun w=>runend_low s (k+1) (by omega) (by omega) w
 have hrun:=runL_le isLow (s.data.toList.drop (k+1));rw[List.length_drop,len_data] at hrun;generalize runL isLow (s.data.toList.drop (k+1))=n at KR hrun hR;have K:=Lib.hid fun w=>readword_post s k (k+1) n (n+1) 5 R hR ((k:Int)+1) ((k+1+n:Nat):Int) (by omega) rfl (by omega) (by omega) (by omega) w
 have KR:Hid (∀ w,Calls Tryz.prog 82 #[.string s,.int .i64 ((k:Int)+1),.func (.func 87) #[] #[]] w fun e w'=>e= .returned (.int .i64 ((k+1+n:Nat):Int))∧w=w'):=Lib.hid fun w=>KR.out w
 have b34:((s[k].toNat:Int)==34)=false:=byte_ne (n:=34) (by rw[h45];decide) (by omega);have b36:((s[k].toNat:Int)==36)=false:=byte_ne (n:=36) (by rw[h45];decide) (by omega);have b45:((s[k].toNat:Int)==45)=true:=byte_eq (n:=45) h45 (by omega);have KD:=Lib.hid fun w=>tdig_any s[k] w
 rw[hd] at KD;have KL:=Lib.hid fun w=>tlow_any s[k] w
 rw[hl] at KL;have KM:=Lib.hid fun w=>tlow_any s[k+1] w
 rw[hl1] at KM;obtain⟨q,hq⟩:∃ q,q=k+1+n:=⟨_,rfl⟩;rw[←hq] at KR K;clear hR hd hl h45 hrun hq hl1 hlow;go_enter Tryz.func57,Tryz.ntmps57;go_wp2_with (first | (go_at_call 85;((with_reducible refine(KD.out _).mono ?_));rintro e w' ⟨rfl,rfl⟩) | (go_at_call 87;((with_reducible refine(KL.out _).mono ?_));rintro e w' ⟨rfl,rfl⟩) | (go_at_call 87;((with_reducible refine(KM.out _).mono ?_));rintro e w' ⟨rfl,rfl⟩) | (go_at_call 82;((with_reducible refine(KR.out _).mono ?_));rintro e w' ⟨rfl,rfl⟩) | (go_at_call 88;((with_reducible refine(K.out _).mono ?_));rintro e w' hp;obtain⟨t,A,c,rfl,HO,hb⟩:=hp.form;obtain⟨hc,hfz⟩:=bcell hb;have hz:=size_le hb;have HB:=Lib.hid hb;clear hb hp));refine bodyPost_ret (v:= .tuple #[.agg #[.int .i64 t.kind,.string ⟨t.word.toArray⟩,.int .i64 t.n,.slice A t.parts.length c,.int .i64 t.pl],.int .i64 (posR k R),.int .i64 (errR R)]) (by simp[results,Tryz.results57,go_sem,hc]) rfl (box5_post rfl HO HB.out _ _ _ _ _)
theorem readtoken_sign (s:ByteArray) (k:Nat) (hk:k<s.size) (hs:s.size≤4000) (h34:s[k]≠34) (hd:isDig s[k]=false) (hl:isLow s[k]=false) (h36:s[k]≠36) (h45:s[k]≠45) (w:World):
  Calls Tryz.prog 57 #[.string s,.int .i64 k] w (PostR w k (tokR (s.data.toList.drop k))):=by
 have hno:¬ (s[k]=45∧lowHead (s.data.toList.drop (k+1))=true):=fun h=>h45 h.1
 obtain⟨R,hR⟩:∃ R,R=tokR (s.data.toList.drop k):=⟨_,rfl⟩;rw[←hR]
 replace hR:R=wordR 4 ((s.data.toList.drop k).take (signL (s.data.toList.drop k))) (signL (s.data.toList.drop k)):=by
  rw[hR]
  conv=>lhs;rw[drop_at s k hk]
  unfold tokR;dsimp only;rw[if_neg h34,if_neg (by rw[hd];decide),if_neg (by rw[hl];decide),if_neg h36,if_neg hno,←drop_at s k hk]
 have KR:=Lib.hid fun w=>signend_any s k hk (by omega) w
 have hrun:=signL_le (s.data.toList.drop k);rw[List.length_drop,len_data] at hrun;generalize signL (s.data.toList.drop k)=n at KR hrun hR;have K:=Lib.hid fun w=>readword_post s k k n n 4 R hR k ((k+n:Nat):Int) rfl rfl (by omega) rfl (by omega) w
 have b34:((s[k].toNat:Int)==34)=false:=byte_ne (n:=34) h34 (by omega);have b36:((s[k].toNat:Int)==36)=false:=byte_ne (n:=36) h36 (by omega);have KD:=Lib.hid fun w=>tdig_any s[k] w
 rw[hd] at KD;have KL:=Lib.hid fun w=>tlow_any s[k] w
 rw[hl] at KL;obtain⟨q,hq⟩:∃ q,q=k+n:=⟨_,rfl⟩;rw[←hq] at KR K;have b45:((s[k].toNat:Int)==45)=false:=byte_ne (n:=45) h45 (by omega);clear hR hd hl h34 h36 h45 hrun hq hno;go_enter Tryz.func57,Tryz.ntmps57;go_wp2_with (first | (go_at_call 85;((with_reducible refine(KD.out _).mono ?_));rintro e w' ⟨rfl,rfl⟩) | (go_at_call 87;((with_reducible refine(KL.out _).mono ?_));rintro e w' ⟨rfl,rfl⟩) | (go_at_call 90;((with_reducible refine(KR.out _).mono ?_));rintro e w' ⟨rfl,rfl⟩) | (go_at_call 88;((with_reducible refine(K.out _).mono ?_));rintro e w' hp;obtain⟨t,A,c,rfl,HO,hb⟩:=hp.form;obtain⟨hc,hfz⟩:=bcell hb;have hz:=size_le hb;have HB:=Lib.hid hb;clear hb hp));refine bodyPost_ret (v:= .tuple #[.agg #[.int .i64 t.kind,.string ⟨t.word.toArray⟩,.int .i64 t.n,.slice A t.parts.length c,.int .i64 t.pl],.int .i64 (posR k R),.int .i64 (errR R)]) (by simp[results,Tryz.results57,go_sem,hc]) rfl (box5_post rfl HO HB.out _ _ _ _ _)
theorem readtoken_dash (s:ByteArray) (k:Nat) (hk:k<s.size) (hs:s.size≤4000) (h45:s[k]=45) (hx:∀ h:k+1<s.size,isLow s[k+1]=false) (w:World):
  Calls Tryz.prog 57 #[.string s,.int .i64 k] w (PostR w k (tokR (s.data.toList.drop k))):=by
 have h34:s[k]≠34:=by rw[h45];decide
 have h36:s[k]≠36:=by rw[h45];decide
 have hd:isDig s[k]=false:=by rw[h45];decide
 have hl:isLow s[k]=false:=by rw[h45];decide
 have hno:¬ (s[k]=45∧lowHead (s.data.toList.drop (k+1))=true):=by
  rintro⟨_,h⟩;by_cases a:k+1<s.size
  ·rw[drop_at s (k+1) a] at h
   have:=hx a;rw[show lowHead (s[k+1]::s.data.toList.drop (k+1+1))=isLow s[k+1] from rfl,this] at h
   cases h
  ·rw[drop_end s (k+1) a] at h;cases h
 obtain⟨R,hR⟩:∃ R,R=tokR (s.data.toList.drop k):=⟨_,rfl⟩;rw[←hR]
 replace hR:R=wordR 4 ((s.data.toList.drop k).take (signL (s.data.toList.drop k))) (signL (s.data.toList.drop k)):=by
  rw[hR]
  conv=>lhs;rw[drop_at s k hk]
  unfold tokR;dsimp only;rw[if_neg h34,if_neg (by rw[hd];decide),if_neg (by rw[hl];decide),if_neg h36,if_neg hno,←drop_at s k hk]
 have KR:=Lib.hid fun w=>signend_any s k hk (by omega) w
 have hrun:=signL_le (s.data.toList.drop k);rw[List.length_drop,len_data] at hrun;generalize signL (s.data.toList.drop k)=n at KR hrun hR;have K:=Lib.hid fun w=>readword_post s k k n n 4 R hR k ((k+n:Nat):Int) rfl rfl (by omega) rfl (by omega) w
 have b34:((s[k].toNat:Int)==34)=false:=byte_ne (n:=34) h34 (by omega);have b36:((s[k].toNat:Int)==36)=false:=byte_ne (n:=36) h36 (by omega);have KD:=Lib.hid fun w=>tdig_any s[k] w
 rw[hd] at KD;have KL:=Lib.hid fun w=>tlow_any s[k] w
 rw[hl] at KL;obtain⟨q,hq⟩:∃ q,q=k+n:=⟨_,rfl⟩;rw[←hq] at KR K;have b45:((s[k].toNat:Int)==45)=true:=byte_eq (n:=45) h45 (by omega);by_cases a:k+1<s.size
 ·have KM:=Lib.hid fun w=>tlow_any s[k+1] w
  rw[hx a] at KM;clear hR hd hl h34 h36 h45 hrun hq hno hx;go_enter Tryz.func57,Tryz.ntmps57;go_wp2_with (first | (go_at_call 85;((with_reducible refine(KD.out _).mono ?_));rintro e w' ⟨rfl,rfl⟩) | (go_at_call 87;((with_reducible refine(KL.out _).mono ?_));rintro e w' ⟨rfl,rfl⟩) | (go_at_call 87;((with_reducible refine(KM.out _).mono ?_));rintro e w' ⟨rfl,rfl⟩) | (go_at_call 90;((with_reducible refine(KR.out _).mono ?_));rintro e w' ⟨rfl,rfl⟩) | (go_at_call 88;((with_reducible refine(K.out _).mono ?_));rintro e w' hp;obtain⟨t,A,c,rfl,HO,hb⟩:=hp.form;obtain⟨hc,hfz⟩:=bcell hb;have hz:=size_le hb;have HB:=Lib.hid hb;clear hb hp));refine bodyPost_ret (v:= .tuple #[.agg #[.int .i64 t.kind,.string ⟨t.word.toArray⟩,.int .i64 t.n,.slice A t.parts.length c,.int .i64 t.pl],.int .i64 (posR k R),.int .i64 (errR R)]) (by simp[results,Tryz.results57,go_sem,hc]) rfl (box5_post rfl HO HB.out _ _ _ _ _)
 ·clear hR hd hl h34 h36 h45 hrun hq hno hx
  go_enter Tryz.func57,Tryz.ntmps57;go_wp2_with (first | (go_at_call 85;((with_reducible refine(KD.out _).mono ?_));rintro e w' ⟨rfl,rfl⟩) | (go_at_call 87;((with_reducible refine(KL.out _).mono ?_));rintro e w' ⟨rfl,rfl⟩) | (go_at_call 90;((with_reducible refine(KR.out _).mono ?_));rintro e w' ⟨rfl,rfl⟩) | (go_at_call 88;((with_reducible refine(K.out _).mono ?_));rintro e w' hp;obtain⟨t,A,c,rfl,HO,hb⟩:=hp.form;obtain⟨hc,hfz⟩:=bcell hb;have hz:=size_le hb;have HB:=Lib.hid hb;clear hb hp));refine bodyPost_ret (v:= .tuple #[.agg #[.int .i64 t.kind,.string ⟨t.word.toArray⟩,.int .i64 t.n,.slice A t.parts.length c,.int .i64 t.pl],.int .i64 (posR k R),.int .i64 (errR R)]) (by simp[results,Tryz.results57,go_sem,hc]) rfl (box5_post rfl HO HB.out _ _ _ _ _)
theorem readtoken_any (s:ByteArray) (k:Nat) (hk:k<s.size) (hs:s.size≤4000) (w:World) (hG:Given w):
  Calls Tryz.prog 57 #[.string s,.int .i64 k] w (PostR w k (tokR (s.data.toList.drop k))):=by
 by_cases h34:s[k]=34
 ·exact readtoken_text s k hk hs h34 w
 ·by_cases hd:isDig s[k]=true
  ·exact readtoken_num s k hk hs hd h34 w hG
  ·by_cases hl:isLow s[k]=true
   ·exact readtoken_word s k hk hs hl w
   ·by_cases h36:s[k]=36
    ·exact readtoken_var s k hk hs h36 w
    ·by_cases h45:s[k]=45
     ·by_cases hx:∃ h:k+1<s.size,isLow s[k+1]=true
      ·obtain⟨a,b⟩:=hx
       exact readtoken_flag s k a hs h45 b w
      ·exact readtoken_dash s k hk hs h45 (fun a=>Bool.eq_false_iff.2 fun b=>hx ⟨a,b⟩) w
     ·exact readtoken_sign s k hk hs h34 (Bool.eq_false_iff.2 hd) (Bool.eq_false_iff.2 hl) h36 h45 w
abbrev Tv:=Tok × Value
def cellsT (l:List Tv):List Value:=l.flatMap fun x=>[.int .i64 x.1.kind,.string ⟨x.1.word.toArray⟩,.int .i64 x.1.n,x.2,.int .i64 x.1.pl]
theorem cellsT_length (l:List Tv):(cellsT l).length=l.length * 5:=by
 induction l with
 | nil=>rfl
 | cons p r ih=>unfold cellsT at ih ⊢;rw[List.flatMap_cons,List.length_append,ih];simp;omega
theorem cellsT_append (a b:List Tv):cellsT (a++b)=cellsT a++cellsT b:=by simp[cellsT]
theorem cellsT_cons (p:Tv) (r:List Tv):cellsT (p::r)= .int .i64 p.1.kind:: .string ⟨p.1.word.toArray⟩:: .int .i64 p.1.n::p.2:: .int .i64 p.1.pl::cellsT r:=rfl
theorem infoT:(Tryz.prog.info? 48).map (fun i=>(i.zero,i.size,i.bytes))=some (some (.agg #[.int .i64 0,.string ⟨#[]⟩,.int .i64 0,.slice none 0 0,.int .i64 0]),5,64):=by kernel_rfl
theorem new_cellsT (w:World) (o:Obj) (T:TypeId) (cs:Array Value) (j:Nat) (u:Value) (h:cs.toList[j]?=some u):((w.alloc o).alloc (.cells cs T)).cell? ((⟨w.heap.size+1,0,none⟩:Addr).add j)=some u:=by
 have e:(w.alloc o).heap.size=w.heap.size+1:=by simp
 rw[←e];exact new_cells (w.alloc o) T cs j u h
theorem five_one (a b c:Int) (W:ByteArray) (A:Option Addr) (n m:Nat):∀ u∈[Value.int .i64 a,.string W,.int .i64 b,.slice A n m,.int .i64 c],u.oneCell'=true:=by
 intro u hu;simp only[List.mem_cons,List.not_mem_nil,or_false] at hu
 rcases hu with rfl | rfl | rfl | rfl | rfl <;> rfl
structure Tks (B:Nat) (w0 w:World) (v:Value) (q:List Tv):Prop where
 row:w.ownsRow B 48 5 v q.length (cellsT q)
 parts:∀ x∈q,OwnP B w x.2 x.1.parts
 below:Below B w0 w
 size:B≤w.heap.size
theorem Tks.nil (w:World):Tks w.heap.size w w (.slice none 0 0) []:=⟨World.ownsRow_nil _ _ _ _,by simp,Below.refl _ _,Nat.le_refl _⟩
theorem Tks.none_ {B:Nat} {w0 w:World} {v:Value} {q:List Tv} (h:Tks B w0 w v q):Tks B w0 w (.slice none 0 0) []:=⟨World.ownsRow_nil _ _ _ _,by simp,h.below,h.size⟩
theorem Tks.alloc {B:Nat} {w0 w:World} {v:Value} {q:List Tv} (h:Tks B w0 w v q) (o:Obj):Tks B w0 (w.alloc o) v q:=
 ⟨h.row.alloc o,fun x hx=>(h.parts x hx).alloc o,h.below.alloc h.size o,by simp;have:=h.size;omega⟩
theorem Tks.beyond {B:Nat} {w0 w w':World} {v:Value} {q:List Tv} (h:Tks B w0 w v q) (hb:Below w.heap.size w w'):Tks B w0 w' v q:=
 ⟨below_kept h.row hb,fun x hx=>below_kept (h.parts x hx) hb,h.below.trans (hb.mono h.size),Nat.le_trans h.size hb.size⟩
theorem Tks.token {B:Nat} {w0 w w':World} {v v' u:Value} {q:List Tv} {g:Tok} (h:Tks B w0 w v q) (hu:OwnP B w u g.parts)
  (ho:w'.ownsRow B 48 5 v' (q.length+1) (cellsT q++[.int .i64 g.kind,.string ⟨g.word.toArray⟩,.int .i64 g.n,u,.int .i64 g.pl])) (hg:w.grownBy w' v.ownBlock):Tks B w0 w' v' (q++[(g,u)]):=by
 refine⟨by rw[cellsT_append,List.length_append];exact ho,fun x hx=>?_,h.below.grown hg h.size (fun k hk=>(h.row.lt k hk).1),Nat.le_trans h.size hg.size⟩
 rcases List.mem_append.1 hx with hx | hx
 ·exact(h.parts x hx).kept hg (own_ne (h.parts x hx) h.row (by decide))
 ·rw[List.mem_singleton] at hx
  subst hx;exact hu.kept hg (own_ne hu h.row (by decide))
def PostT (w0:World) (R:Option (List Tok) × Nat × Int) (e:Ending) (w':World):Prop:=
 ∃ (v:Value) (l:List Tv),e= .returned (.tuple #[v,.int .i64 R.2.1,.int .i64 R.2.2])∧Tks w0.heap.size w0 w' v l∧l.map (·.1)=R.1.getD []
def LoopT (s:ByteArray) (w0:World) (R:Option (List Tok) × Nat × Int) (v a:Value) (w:World):Prop:=
 ∃ (k:Nat) (l:List Tv),k≤s.size∧a= .int .i64 k∧goT s.data.toList k (l.map (·.1))=R∧Tks w0.heap.size w0 w v l∧l.length≤k
def TBad (w0:World) (p:Nat) (x:Int) (e:Ending) (w':World):Prop:=
 ∃ (t:Tok) (A:Option Addr) (c:Nat),e= .returned (.tuple #[.agg #[.int .i64 t.kind,.string ⟨t.word.toArray⟩,.int .i64 t.n,.slice A t.parts.length c,.int .i64 t.pl],.int .i64 p,.int .i64 x])∧Below w0.heap.size w0 w'
def TOk (w0:World) (p:Nat) (t:Tok) (e:Ending) (w':World):Prop:=
 ∃ (A:Option Addr) (c:Nat),e= .returned (.tuple #[.agg #[.int .i64 t.kind,.string ⟨t.word.toArray⟩,.int .i64 t.n,.slice A t.parts.length c,.int .i64 t.pl],.int .i64 p,.int .i64 0])∧OwnP w0.heap.size w' (.slice A t.parts.length c) t.parts∧Below w0.heap.size w0 w'
theorem token_b (s:ByteArray) (k q:Nat) (x:Int) (hk:k<s.size) (hs:s.size≤4000) (h:tokR (s.data.toList.drop k)= .bad q x) (w:World) (hG:Given w):Calls Tryz.prog 57 #[.string s,.int .i64 k] w (TBad w (k+q) x):=by
 have:=readtoken_any s k hk hs w hG;rw[h] at this
 exact this.mono fun e w' hp=>by
  obtain⟨t,A,c,he,_,hb⟩:=hp.form;exact⟨t,A,c,he,hb⟩
theorem token_o (s:ByteArray) (k q:Nat) (t:Tok) (hk:k<s.size) (hs:s.size≤4000) (h:tokR (s.data.toList.drop k)= .ok t q) (w:World) (hG:Given w):Calls Tryz.prog 57 #[.string s,.int .i64 k] w (TOk w (k+q) t):=by
 have:=readtoken_any s k hk hs w hG;rw[h] at this
 exact this.mono fun e w' hp=>by
  obtain⟨t',A,c,he,HO,hb⟩:=hp.form;obtain rfl:=HO.out.2 t q rfl;exact⟨A,c,he,HO.out.1,hb⟩
theorem behind_at (s:ByteArray) (k:Nat) (i:Int) (N:Nat) (hi:i=k) (hN:N=behind s.data.toList k) (hk:k≤s.size) (hs:s.size≤1000000) (w:World):
  Calls Tryz.prog 56 #[.string s,.int .i64 i] w fun e w'=>e= .returned (.int .i64 N)∧w=w':=by
 subst hi hN;exact behind_any s k hk hs w
theorem scan_any (s:ByteArray) (hs:s.size≤4000) (w:World) (hG:Given w):Calls Tryz.prog 28 #[.string s] w (PostT w (scan s.data.toList)):=by
 by_cases h2000:2000<s.size
 ·have hR:scan s.data.toList=(none,2000,2):=by unfold scan;rw[if_pos (by rw[len_data];exact h2000)]
  rw[hR];clear hR;go_enter Tryz.func28,Tryz.ntmps28;go_wp2
  go_ret3
  exact⟨_,[],rfl,Tks.nil w,rfl⟩
 ·obtain⟨R,hR⟩:∃ R,R=goT s.data.toList (behind s.data.toList 0) []:=⟨_,rfl⟩
  have hsc:scan s.data.toList=R:=by unfold scan;rw[if_neg (by rw[len_data];exact h2000),hR]
  rw[hsc];have hb0:=behind_le s.data.toList 0 (Nat.zero_le _);rw[len_data] at hb0;have K0:Hid (∀ w,Calls Tryz.prog 56 #[.string s,.int .i64 0] w fun e w'=>e= .returned (.int .i64 (behind s.data.toList 0))∧w=w'):=Lib.hid fun w=>behind_at s 0 0 _ rfl rfl (by omega) (by omega) w
  generalize behind s.data.toList 0=B0 at K0 hR hb0;have HR:=Lib.hid hR.symm;obtain⟨i0,hi0,hz0,hz1,hz2⟩:=info_parts infoT;have HG:=Lib.hid hG;clear hR hsc hG;go_enter Tryz.func28,Tryz.ntmps28;go_wp2_with (go_at_call 56;((with_reducible refine(K0.out _).mono ?_));rintro e w' ⟨rfl,rfl⟩)
  go_loopw [5,6] (fun v a wr=>LoopT s w R v a wr) (fun _ a _=>s.size - (intOf a).toNat)
  case atStart=>exact⟨B0,[],hb0,rfl,HR.out,Tks.nil w,by simp⟩
  case round=>
   obtain⟨k,l,hk,rfl,hg,hT,hl⟩:=hrel;have HGk:=Lib.hid hg;have HT:=Lib.hid hT;have HGw:Hid (Given wr):=Lib.hid (HG.out.below hT.below);clear hg hT;by_cases a:k<s.size
   ·rcases hp:tokR (s.data.toList.drop k) with ⟨q,x⟩ | ⟨t,q⟩
    ·have HX:Hid (R=(none,k+q,x)):=Lib.hid (by rw[←HGk.out,goT_bad _ (by rw[len_data];exact a) hp])
     have K:=Lib.hid (token_b s k q x a hs hp wr HGw.out)
     have hx:(x != 0)=true:=by
      have:=(tokR_bad hp).2
      rcases this with h | h <;> (subst h;rfl)
     obtain⟨p,hpq⟩:∃ p,p=k+q:=⟨_,rfl⟩;rw[←hpq] at K HX;clear hp hpq;go_wp2_with (go_at_call 57;((with_reducible refine(K.out).mono ?_));rintro e w1 ⟨t,A,c,rfl,hb⟩;have HB:=Lib.hid hb;clear hb)
     go_ret3
     rw[HX.out];exact⟨_,[],rfl,((HT.out.beyond HB.out).alloc _).none_,rfl⟩
    ·obtain⟨q0,q1,_⟩:=tokR_ok hp
     rw[List.length_drop,len_data] at q1;have HX:Hid (goT s.data.toList (behind s.data.toList (k+q)) (l.map (·.1)++[withPl t k])=R):=Lib.hid (by rw[←HGk.out,goT_ok _ (by rw[len_data];exact a) hp]);have K:=Lib.hid (token_o s k q t a hs hp wr HGw.out);obtain⟨p,hpq⟩:∃ p,p=k+q:=⟨_,rfl⟩;have KB:=Lib.hid fun w=>behind_at s (k+q) p _ (by omega) rfl (by omega) (by omega) w
     have n1:=behind_ge s.data.toList (k+q);have n2:=behind_le s.data.toList (k+q) (by rw[len_data];omega);rw[len_data] at n2;generalize behind s.data.toList (k+q)=N at KB HX n1 n2;rw[←hpq] at K;have n3:k<N:=by omega
     clear hp hpq n1 q0 q1;go_wp2_with (first | (go_at_call 57;((with_reducible refine(K.out).mono ?_));rintro e w1 ⟨A,c,rfl,ho,hb⟩;have HB:=Lib.hid hb;have HO:=Lib.hid ho;clear hb ho) | (go_at_call 56;((with_reducible refine(KB.out _).mono ?_));rintro e w' ⟨rfl,rfl⟩) | (at_builtin;refine wpList_append_own _ rfl (.tmp 32) (.tmp 34) 44 rfl w.heap.size 48 i0 (.agg #[.int .i64 0,.string ⟨#[]⟩,.int .i64 0,.slice none 0 0,.int .i64 0]) 5 64 Tryz.underlying44 hi0 hz0 hz1 hz2 rfl (by decide) _ _ _ rfl (((HT.out.beyond HB.out).alloc _).alloc _).row ⟨w1.heap.size+1,0,none⟩ 1 1 [.int .i64 t.kind,.string ⟨t.word.toArray⟩,.int .i64 t.n,.slice A t.parts.length c,.int .i64 k] rfl rfl (fun j u hu=>new_cellsT w1 (.cells #[.int .i64 t.kind,.string ⟨t.word.toArray⟩,.int .i64 t.n,.slice A t.parts.length c,.int .i64 k] 48) 48 #[.int .i64 t.kind,.string ⟨t.word.toArray⟩,.int .i64 t.n,.slice A t.parts.length c,.int .i64 k] j u hu) (five_one _ _ _ _ _ _ _) (by unfold maxLen;omega) (by omega) (((HT.out.beyond HB.out).alloc _).alloc _).size ?_;intro v2 w3 hown' hgrow _))
     go_roundw
     case rel=>
      refine⟨N,l++[(withPl t k,.slice A t.parts.length c)],n2,rfl,by rw[List.map_append];exact HX.out,(((HT.out.beyond HB.out).alloc _).alloc _).token (g:=withPl t k) (u:= .slice A t.parts.length c) ?_ hown' hgrow,by rw[List.length_append];simp;omega⟩;exact(((HO.out.mono HT.out.size).alloc _).alloc _)
     case measure=>simp[intOf];omega
   ·have HX:Hid (R=(some (l.map (·.1)),0,0)):=Lib.hid (by rw[←HGk.out,goT_end _ (by rw[len_data];exact a)])
    go_wp2
    go_ret3
    rw[HX.out];exact⟨_,l,rfl,HT.out,rfl⟩
abbrev tokA (t:Tok) (A:Option Addr) (c:Nat):Value:= .agg #[.int .i64 t.kind,.string ⟨t.word.toArray⟩,.int .i64 t.n,.slice A t.parts.length c,.int .i64 t.pl]
structure FitT (t:Tok):Prop where
 word:t.word.length≤100000
 n: -9223372036854775808≤t.n∧t.n≤9223372036854775807
 parts:t.parts.length≤100000
 names:∀ p∈t.parts,p.1.length≤100000
 texts:∀ p∈t.parts,p.2.length≤100000
 print:(print t.parts).length≤100000
theorem nat_eq0 {m:Nat} (h:m=0):((m:Int)==0)=true∧(m==0)=true:=by subst h;exact⟨rfl,rfl⟩
theorem nat_ne0 {m:Nat} (h:¬ m=0):((m:Int)==0)=false∧(m==0)=false:=by
 constructor
 ·simp;omega
 ·simpa using h
theorem okT_2 {t:Tok} (h:t.kind=2):okT t=(t.word.isEmpty && decide (0≤t.n) && t.parts.isEmpty):=by unfold okT;rw[if_pos h]
theorem okT_3 {t:Tok} (h:t.kind=3):okT t=(t.word.isEmpty && decide (t.n=0) && may false t.parts):=by unfold okT;rw[if_neg (by omega),if_pos h]
theorem okT_x {t:Tok} (h:¬ t.kind=2) (h3:¬ t.kind=3):okT t=(mayW t.kind t.word && decide (t.n=0) && t.parts.isEmpty):=by unfold okT;rw[if_neg h,if_neg h3]
theorem empty_len (l:List Pt):l.isEmpty=decide (l.length=0):=by cases l <;> simp
theorem maybe_any (t:Tok) (A:Option Addr) (c:Nat) (w:World) (h:Rd w.heap.size w A t.parts.length t.parts) (hf:FitT t):
  Calls Tryz.prog 68 #[tokA t A c] w fun e w'=>e= .returned (.bool (okT t))∧Below w.heap.size w w':=by
 obtain⟨v,hv⟩:∃ v,v=okT t:=⟨_,rfl⟩;rw[←hv];unfold tokA;obtain⟨W,hW⟩:∃ W:ByteArray,W=⟨t.word.toArray⟩:=⟨_,rfl⟩;have hWs:W.size≤100000:=by rw[←len_data,hW];exact hf.word
 have KH:=Lib.hid fun w=>mayhave_any t.kind W (by omega) w
 have hWd:W.data.toList=t.word:=by rw[hW]
 rw[hWd] at KH;have KM:Hid (∀ w',Below w.heap.size w w'→Calls Tryz.prog 104 #[.slice A t.parts.length c] w' fun e w2=>e= .returned (.bool (may false t.parts))∧Below w'.heap.size w' w2):=Lib.hid fun w' hb=>may_any A _ c t.parts w' (h.onto hb) (by have:=hf.parts;omega) (fun p hp=>by have:=hf.names p hp;omega)
 rw[←hW];obtain⟨m,hm⟩:∃ m,m=t.parts.length:=⟨_,rfl⟩;have hpe:=empty_len t.parts;rw[←hm] at KM hpe ⊢;by_cases k2:t.kind=2
 ·rw[okT_2 k2,hpe] at hv
  rw[k2];by_cases e1:t.word=[]
  ·obtain⟨n1,n2⟩:=tx_nil hW e1
   by_cases e2:0≤t.n
   ·by_cases e3:m=0
    ·obtain⟨b1,b2⟩:=nat_eq0 e3
     have HV:Hid (v=true):=Lib.hid (by rw[hv];simp[e1,e2,e3]);clear hv hf h k2 hm hW hWd hWs hpe e1 e3;go_enter Tryz.func68,Tryz.ntmps68;go_wp2;go_ret;exact⟨ret_bool HV.out.symm,(Below.refl _ _).alloc (Nat.le_refl _) _⟩
    ·obtain⟨b1,b2⟩:=nat_ne0 e3
     have HV:Hid (v=false):=Lib.hid (by rw[hv];simp[e3]);clear hv hf h k2 hm hW hWd hWs hpe e1 e3;go_enter Tryz.func68,Tryz.ntmps68;go_wp2;go_ret;exact⟨ret_bool HV.out.symm,(Below.refl _ _).alloc (Nat.le_refl _) _⟩
   ·have HV:Hid (v=false):=Lib.hid (by rw[hv];simp[e2])
    clear hv hf h k2 hm hW hWd hWs hpe e1;go_enter Tryz.func68,Tryz.ntmps68;go_wp2;go_ret;exact⟨ret_bool HV.out.symm,(Below.refl _ _).alloc (Nat.le_refl _) _⟩
  ·obtain⟨n1,n2⟩:=tx_some hW e1
   have HV:Hid (v=false):=Lib.hid (by rw[hv];simp[e1]);clear hv hf h k2 hm hW hWd hWs hpe e1;go_enter Tryz.func68,Tryz.ntmps68;go_wp2;go_ret;exact⟨ret_bool HV.out.symm,(Below.refl _ _).alloc (Nat.le_refl _) _⟩
 ·have bk2:(t.kind==2)=false:=by simpa using k2
  by_cases k3:t.kind=3
  ·rw[okT_3 k3] at hv
   rw[k3];by_cases e1:t.word=[]
   ·obtain⟨n1,n2⟩:=tx_nil hW e1
    by_cases e2:t.n=0
    ·have bn:(t.n==0)=true:=by simpa using e2
     have HV:Hid (v=may false t.parts):=Lib.hid (by rw[hv];simp[e1,e2]);generalize may false t.parts=y at KM HV;clear hv hf h k2 k3 bk2 hm hW hWd hWs hpe e1;clear e2;go_enter Tryz.func68,Tryz.ntmps68;go_wp2_with (go_at_call 104;((with_reducible refine(KM.out _ ((Below.refl _ _).alloc (Nat.le_refl _) _)).mono ?_));rintro e w' ⟨rfl,hb⟩);go_ret;exact⟨ret_bool HV.out.symm,((Below.refl _ _).alloc (Nat.le_refl _) _).trans (hb.mono (by simp))⟩
    ·have bn:(t.n==0)=false:=by simpa using e2
     have HV:Hid (v=false):=Lib.hid (by rw[hv];simp[e2]);clear hv hf h k2 k3 bk2 hm hW hWd hWs hpe e1;clear e2;go_enter Tryz.func68,Tryz.ntmps68;go_wp2;go_ret;exact⟨ret_bool HV.out.symm,(Below.refl _ _).alloc (Nat.le_refl _) _⟩
   ·obtain⟨n1,n2⟩:=tx_some hW e1
    have HV:Hid (v=false):=Lib.hid (by rw[hv];simp[e1]);clear hv hf h k2 k3 bk2 hm hW hWd hWs hpe e1;go_enter Tryz.func68,Tryz.ntmps68;go_wp2;go_ret;exact⟨ret_bool HV.out.symm,(Below.refl _ _).alloc (Nat.le_refl _) _⟩
  ·have bk3:(t.kind==3)=false:=by simpa using k3
   rw[okT_x k2 k3,hpe] at hv;generalize mayW t.kind t.word=x at KH hv
   cases x
   ·have HV:Hid (v=false):=Lib.hid (by rw[hv];rfl)
    clear hv hf h k2 k3 hm hW hWd hWs hpe;go_enter Tryz.func68,Tryz.ntmps68;go_wp2_with (go_at_call 105;((with_reducible refine(KH.out _).mono ?_));rintro e w' ⟨rfl,rfl⟩);go_ret;exact⟨ret_bool HV.out.symm,(Below.refl _ _).alloc (Nat.le_refl _) _⟩
   ·by_cases e2:t.n=0
    ·have bn:(t.n==0)=true:=by simpa using e2
     by_cases e3:m=0
     ·obtain⟨b1,b2⟩:=nat_eq0 e3
      have HV:Hid (v=true):=Lib.hid (by rw[hv];simp[e2,e3]);clear hv hf h k2 k3 hm hW hWd hWs hpe e2 e3;go_enter Tryz.func68,Tryz.ntmps68;go_wp2_with (go_at_call 105;((with_reducible refine(KH.out _).mono ?_));rintro e w' ⟨rfl,rfl⟩);go_ret;exact⟨ret_bool HV.out.symm,(Below.refl _ _).alloc (Nat.le_refl _) _⟩
     ·obtain⟨b1,b2⟩:=nat_ne0 e3
      have HV:Hid (v=false):=Lib.hid (by rw[hv];simp[e3]);clear hv hf h k2 k3 hm hW hWd hWs hpe e2 e3;go_enter Tryz.func68,Tryz.ntmps68;go_wp2_with (go_at_call 105;((with_reducible refine(KH.out _).mono ?_));rintro e w' ⟨rfl,rfl⟩);go_ret;exact⟨ret_bool HV.out.symm,(Below.refl _ _).alloc (Nat.le_refl _) _⟩
    ·have bn:(t.n==0)=false:=by simpa using e2
     have HV:Hid (v=false):=Lib.hid (by rw[hv];simp[e2]);clear hv hf h k2 k3 hm hW hWd hWs hpe e2;go_enter Tryz.func68,Tryz.ntmps68;go_wp2_with (go_at_call 105;((with_reducible refine(KH.out _).mono ?_));rintro e w' ⟨rfl,rfl⟩);go_ret;exact⟨ret_bool HV.out.symm,(Below.refl _ _).alloc (Nat.le_refl _) _⟩
def textB (t:Tok):ByteArray:=if okT t then ⟨(textT t).toArray⟩ else ⟨#[]⟩
def errB (t:Tok):Int:=if okT t then 0 else 5
theorem textT_2 {t:Tok} (h:t.kind=2):textT t=Lib.itoa t.n:=by unfold textT;rw[if_pos h]
theorem textT_3 {t:Tok} (h:t.kind=3):textT t=print t.parts:=by unfold textT;rw[if_neg (by omega),if_pos h]
theorem textT_5 {t:Tok} (h:t.kind=5):textT t=45::t.word:=by unfold textT;rw[if_neg (by omega),if_neg (by omega),if_pos h]
theorem textT_6 {t:Tok} (h:t.kind=6):textT t=36::t.word:=by unfold textT;rw[if_neg (by omega),if_neg (by omega),if_neg (by omega),if_pos h]
theorem textT_x {t:Tok} (h2:¬ t.kind=2) (h3:¬ t.kind=3) (h5:¬ t.kind=5) (h6:¬ t.kind=6):textT t=t.word:=by unfold textT;rw[if_neg h2,if_neg h3,if_neg h5,if_neg h6]
theorem text_any (t:Tok) (A:Option Addr) (c:Nat) (w:World) (h:Rd w.heap.size w A t.parts.length t.parts) (hf:FitT t) (hG:Given w):
  Calls Tryz.prog 42 #[tokA t A c] w fun e w'=>e= .returned (.tuple #[.string (textB t),.int .i64 (errB t)])∧Below w.heap.size w w':=by
 have HG:=Lib.hid hG;have KB:Hid (∀ w',Below w.heap.size w w'→Calls Tryz.prog 68 #[tokA t A c] w' fun e w2=>e= .returned (.bool (okT t))∧Below w'.heap.size w' w2):=Lib.hid fun w' hb=>maybe_any t A c w' (h.onto hb) hf
 obtain⟨T,hT⟩:∃ T,T=textB t:=⟨_,rfl⟩;rw[←hT];unfold textB at hT;unfold errB;have hok:okT t=true→okT t=true:=fun h=>h
 unfold tokA at KB ⊢;obtain⟨W,hW⟩:∃ W:ByteArray,W=⟨t.word.toArray⟩:=⟨_,rfl⟩;have hWs:W.size≤100000:=by rw[←len_data,hW];exact hf.word
 rw[←hW] at KB ⊢
 have KP:okT t=true→t.kind=3→Hid (∀ w',Below w.heap.size w w'→Calls Tryz.prog 70 #[.slice A t.parts.length c] w' fun e w2=>e= .returned (.tuple #[.string ⟨(print t.parts).toArray⟩,.int .i64 0])∧Below w'.heap.size w' w2):=fun ho h3=>Lib.hid fun w' hb=>
  print_yes A _ c t.parts w' (h.onto hb) (by have:=hf.parts;omega) (fun p hp=>by have:=hf.names p hp;omega) (fun p hp=>by have:=hf.texts p hp;omega) (by have:=hf.print;omega) (by rw[okT_3 h3] at ho;simp at ho;exact ho.2)
 obtain⟨m,hm⟩:∃ m,m=t.parts.length:=⟨_,rfl⟩;rw[←hm] at KB KP ⊢;generalize okT t=b at KB hT hok KP ⊢
 cases b
 ·rw[if_neg (by decide)] at hT
  rw[if_neg (by decide)];have HT:=Lib.hid hT;clear hT hok KP hW hm h hf hG;go_enter Tryz.func42,Tryz.ntmps42;go_wp2_with (go_at_call 68;((with_reducible refine(KB.out _ ((Below.refl _ _).alloc (Nat.le_refl _) _)).mono ?_));rintro e w1 ⟨rfl,hb⟩)
  go_ret2
  exact⟨ret_so HT.out.symm,((Below.refl _ _).alloc (Nat.le_refl _) _).trans (hb.mono (by simp))⟩
 ·rw[if_pos rfl] at hT
  rw[if_pos rfl];by_cases k2:t.kind=2
  ·rw[textT_2 k2] at hT
   have K:=Lib.hid fun w hg=>print_any t.n hf.n w hg
   rw[←hT] at K;rw[k2] at KB ⊢;clear hT hok KP hW hm h hf hG k2;go_enter Tryz.func42,Tryz.ntmps42;go_wp2_with (first | (go_at_call 68;((with_reducible refine(KB.out _ ((Below.refl _ _).alloc (Nat.le_refl _) _)).mono ?_));rintro e w1 ⟨rfl,hb⟩;obtain⟨hc,hfz⟩:=bcell hb;have hz:=size_le hb;have HB1:=Lib.hid (((Below.refl w.heap.size w).alloc (Nat.le_refl _) _).trans (hb.mono (by simp)));clear hb) | (go_at_call 69;((with_reducible refine(K.out _ (HG.out.below HB1.out)).mono ?_));rintro e w2 ⟨rfl,hb2⟩))
   go_ret2
   exact⟨rfl,HB1.out.trans (hb2.mono (HB1.out.size))⟩
  ·have b2:(t.kind==2)=false:=by simpa using k2
   by_cases k3:t.kind=3
   ·rw[textT_3 k3] at hT
    have K:=KP rfl k3;rw[←hT] at K;rw[k3] at KB b2 ⊢;clear hT hok KP hW hm h hf hG k2 k3;go_enter Tryz.func42,Tryz.ntmps42;go_wp2_with (first | (go_at_call 68;((with_reducible refine(KB.out _ ((Below.refl _ _).alloc (Nat.le_refl _) _)).mono ?_));rintro e w1 ⟨rfl,hb⟩;obtain⟨hc,hfz⟩:=bcell hb;have hz:=size_le hb;have HB1:=Lib.hid (((Below.refl w.heap.size w).alloc (Nat.le_refl _) _).trans (hb.mono (by simp)));clear hb) | (go_at_call 70;((with_reducible refine(K.out _ HB1.out).mono ?_));rintro e w2 ⟨rfl,hb2⟩))
    go_ret2
    exact⟨rfl,HB1.out.trans (hb2.mono (HB1.out.size))⟩
   ·have b3:(t.kind==3)=false:=by simpa using k3
    by_cases k5:t.kind=5
    ·rw[textT_5 k5] at hT
     have HT:Hid (T=⟨#[45]⟩++W):=Lib.hid (by rw[hT];exact(ba_eq _ _ (cat_data ⟨#[45]⟩ W [45] t.word rfl (by rw[hW]))).symm);rw[k5] at KB b2 b3 ⊢;clear hT hok KP hW hm h hf hG k2 k3 k5;go_enter Tryz.func42,Tryz.ntmps42;go_wp2_with (go_at_call 68;((with_reducible refine(KB.out _ ((Below.refl _ _).alloc (Nat.le_refl _) _)).mono ?_));rintro e w1 ⟨rfl,hb⟩;obtain⟨hc,hfz⟩:=bcell hb;have hz:=size_le hb;have HB1:=Lib.hid (((Below.refl w.heap.size w).alloc (Nat.le_refl _) _).trans (hb.mono (by simp)));clear hb)
     go_ret2
     exact⟨ret_so HT.out.symm,HB1.out⟩
    ·have b5:(t.kind==5)=false:=by simpa using k5
     by_cases k6:t.kind=6
     ·rw[textT_6 k6] at hT
      have HT:Hid (T=⟨#[36]⟩++W):=Lib.hid (by rw[hT];exact(ba_eq _ _ (cat_data ⟨#[36]⟩ W [36] t.word rfl (by rw[hW]))).symm);rw[k6] at KB b2 b3 b5 ⊢;clear hT hok KP hW hm h hf hG k2 k3 k5 k6;go_enter Tryz.func42,Tryz.ntmps42;go_wp2_with (go_at_call 68;((with_reducible refine(KB.out _ ((Below.refl _ _).alloc (Nat.le_refl _) _)).mono ?_));rintro e w1 ⟨rfl,hb⟩;obtain⟨hc,hfz⟩:=bcell hb;have hz:=size_le hb;have HB1:=Lib.hid (((Below.refl w.heap.size w).alloc (Nat.le_refl _) _).trans (hb.mono (by simp)));clear hb)
      go_ret2
      exact⟨ret_so HT.out.symm,HB1.out⟩
     ·have b6:(t.kind==6)=false:=by simpa using k6
      rw[textT_x k2 k3 k5 k6] at hT;have HT:Hid (T=W):=Lib.hid (by rw[hT,hW]);have K:=Lib.hid fun w=>tclone_any W (by omega) w
      clear hT hok KP hW hm h hf hG k2 k3 k5 k6;go_enter Tryz.func42,Tryz.ntmps42;go_wp2_with (first | (go_at_call 68;((with_reducible refine(KB.out _ ((Below.refl _ _).alloc (Nat.le_refl _) _)).mono ?_));rintro e w1 ⟨rfl,hb⟩;obtain⟨hc,hfz⟩:=bcell hb;have hz:=size_le hb;have HB1:=Lib.hid (((Below.refl w.heap.size w).alloc (Nat.le_refl _) _).trans (hb.mono (by simp)));clear hb) | (go_at_call 71;((with_reducible refine(K.out _).mono ?_));rintro e w2 ⟨rfl,hb2⟩))
      go_ret2
      exact⟨ret_so HT.out.symm,HB1.out.trans (hb2.mono (HB1.out.size))⟩
theorem add_oneT (ad:Addr) (m i:Nat) (h:0<i):(⟨(ad.add m).block,(ad.add m).off+i,none⟩:Addr)=ad.add (m+i):=by
 unfold Addr.add;by_cases hk:m=0
 ·subst hk
  have:¬ i=0:=by omega
  simp[this]
 ·have:¬ m+i=0:=by omega
  simp[hk,Nat.add_assoc]
def At5 (w:World) (a:Addr) (t:Tok) (A:Option Addr) (c:Nat):Prop:=
 w.cell? a=some (.int .i64 t.kind)∧w.cell? ⟨a.block,a.off+1,none⟩=some (.string ⟨t.word.toArray⟩)∧w.cell? ⟨a.block,a.off+2,none⟩=some (.int .i64 t.n)∧w.cell? ⟨a.block,a.off+3,none⟩=some (.slice A t.parts.length c)∧w.cell? ⟨a.block,a.off+4,none⟩=some (.int .i64 t.pl)
def RdT (B:Nat) (w:World) (A:Option Addr) (n:Nat) (ts:List Tok):Prop:=n=ts.length∧(0<n→∃ ad,A=some ad∧ad.block<B∧∀ i t,ts[i]?=some t→
 ∃ A' c',At5 w (ad.add (i * 5)) t A' c'∧Rd B w A' t.parts.length t.parts)
theorem RdA.up {B B':Nat} {w:World} {ad:Addr} {ps:List Pt} (h:RdA B w ad ps) (hB:B≤B'):RdA B' w ad ps:=⟨Nat.lt_of_lt_of_le h.1 hB,h.2⟩
theorem Rd.up {B B':Nat} {w:World} {A:Option Addr} {n:Nat} {ps:List Pt} (h:Rd B w A n ps) (hB:B≤B'):Rd B' w A n ps:=
 ⟨h.1,fun hn=>by obtain⟨ad,e,hr⟩:=h.2 hn;exact⟨ad,e,hr.up hB⟩⟩
theorem At5.keep {B:Nat} {w w':World} {a:Addr} {t:Tok} {A:Option Addr} {c:Nat} (h:At5 w a t A c) (hB:a.block<B) (hb:Below B w w'):At5 w' a t A c:=
 ⟨(hb.cell hB).trans h.1,(hb.cell (p:=⟨a.block,a.off+1,none⟩) hB).trans h.2.1,(hb.cell (p:=⟨a.block,a.off+2,none⟩) hB).trans h.2.2.1,(hb.cell (p:=⟨a.block,a.off+3,none⟩) hB).trans h.2.2.2.1,(hb.cell (p:=⟨a.block,a.off+4,none⟩) hB).trans h.2.2.2.2⟩
theorem RdT.keep {B:Nat} {w w':World} {A:Option Addr} {n:Nat} {ts:List Tok} (h:RdT B w A n ts) (hb:Below B w w'):RdT B w' A n ts:=by
 refine⟨h.1,fun hn=>?_⟩;obtain⟨ad,e,hlt,hc⟩:=h.2 hn;refine⟨ad,e,hlt,fun i t ht=>?_⟩;obtain⟨A',c',h5,hr⟩:=hc i t ht;exact⟨A',c',h5.keep (by rw[block_of_add];exact hlt) hb,hr.keep hb⟩
theorem RdT.up {B B':Nat} {w:World} {A:Option Addr} {n:Nat} {ts:List Tok} (h:RdT B w A n ts) (hB:B≤B'):RdT B' w A n ts:=by
 refine⟨h.1,fun hn=>?_⟩;obtain⟨ad,e,hlt,hc⟩:=h.2 hn;refine⟨ad,e,by omega,fun i t ht=>?_⟩;obtain⟨A',c',h5,hr⟩:=hc i t ht;exact⟨A',c',h5,hr.up hB⟩
theorem RdT.at_ {B:Nat} {w:World} {A:Option Addr} {n:Nat} {ts:List Tok} {k:Nat} {t:Tok} (h:RdT B w A n ts) (hk:ts[k]?=some t):
  ∃ ad A' c',A=some ad∧At5 w (ad.add (k * 5)) t A' c'∧Rd B w A' t.parts.length t.parts:=by
 obtain⟨ad,e,_,hc⟩:=h.2 (by have:=(List.getElem?_eq_some_iff.1 hk).1;have:=h.1;omega);obtain⟨A',c',h5,hr⟩:=hc k t hk;exact⟨ad,A',c',e,h5,hr⟩
theorem cellsT_at:∀ (l:List Tv) (k:Nat) (x:Tv),l[k]?=some x→(cellsT l)[k * 5]?=some (.int .i64 x.1.kind)∧(cellsT l)[k * 5+1]?=some (.string ⟨x.1.word.toArray⟩)∧(cellsT l)[k * 5+2]?=some (.int .i64 x.1.n)∧(cellsT l)[k * 5+3]?=some x.2∧(cellsT l)[k * 5+4]?=some (.int .i64 x.1.pl)
 | [],k,p,h=>by simp at h
 | q::r,0,p,h=>by
   injection h with h;subst h;rw[cellsT_cons];simp
 | q::r,k+1,p,h=>by
   have ih:=cellsT_at r k p (by simpa using h);rw[cellsT_cons,show (k+1) * 5=k * 5+5 by omega];simpa using ih
theorem rdt_of_own {w0 w:World} {B:Nat} {v:Value} {l:List Tv} (h:Tks B w0 w v l):∃ A c,v= .slice A l.length c∧RdT w.heap.size w A l.length (l.map (·.1)):=by
 rcases h.row.2 with ⟨rfl,h0⟩ | ⟨g,cap,cur,rfl,hb,hg,_⟩
 ·exact⟨none,0,by rw[h0],by simp,fun hn=>by omega⟩
 ·refine⟨_,_,rfl,by simp,fun hn=>⟨_,rfl,(Array.getElem?_eq_some_iff.1 hg).1,fun i gl hi=>?_⟩⟩
  rw[List.getElem?_map,Option.map_eq_some_iff] at hi;obtain⟨x,hx,rfl⟩:=hi;obtain⟨c0,c1,c2,c3,c4⟩:=cellsT_at l i x hx;have hs:=h.parts x (List.mem_of_getElem? hx);obtain⟨A',c',e,hr⟩:=rd_of_own (ps:=x.1.parts) hs;refine⟨A',c',⟨h.row.cells (g:=g) rfl _ _ c0,?_,?_,?_,?_⟩,hr⟩
  ·rw[add_oneT _ _ _ (by omega)];exact h.row.cells (g:=g) rfl _ _ c1
  ·rw[add_oneT _ _ _ (by omega)];exact h.row.cells (g:=g) rfl _ _ c2
  ·rw[add_oneT _ _ _ (by omega),h.row.cells (g:=g) rfl _ _ c3,e]
  ·rw[add_oneT _ _ _ (by omega)];exact h.row.cells (g:=g) rfl _ _ c4
def joinT:List Tok→Bs
 | []=>[]
 | t::r=>textT t++r.flatMap fun t=>32::textT t
theorem joinT_snoc (l:List Tok) (t:Tok):joinT (l++[t])=joinT l++(if l=[] then [] else [32])++textT t:=by
 cases l with
 | nil=>simp[joinT]
 | cons x r=>simp[joinT]
def joinE (ts:List Tok):Int:=if ts.all okT then (if 2000<(joinT ts).length then 2 else 0) else 5
def joinB (ts:List Tok):ByteArray:=if ts.all okT∧¬ 2000<(joinT ts).length then ⟨(joinT ts).toArray⟩ else ⟨#[]⟩
theorem textT_len {t:Tok} (h:FitT t):(textT t).length≤100001:=by
 unfold textT
 split
 ·have:=Lib.itoa_length_le t.n h.n.1 h.n.2;omega
 ·split
  ·have:=h.print;omega
  ·split
   ·have:=h.word;rw[List.length_cons];omega
   ·split
    ·have:=h.word;rw[List.length_cons];omega
    ·have:=h.word;omega
structure JI (ts:List Tok) (k:Nat) (O:Bs):Prop where
 ok:(ts.take k).all okT=true
 out:O=joinT (ts.take k)∨(2000<O.length∧2000<(joinT (ts.take k)).length)
 len:O.length≤200000
theorem JI.start (ts:List Tok):JI ts 0 []:=⟨rfl,.inl rfl,by simp⟩
theorem take_snocT {ts:List Tok} {k:Nat} {t:Tok} (h:ts[k]?=some t):ts.take (k+1)=ts.take k++[t]:=by
 obtain⟨hk,e⟩:=List.getElem?_eq_some_iff.1 h;rw[List.take_succ_eq_append_getElem hk,e]
theorem JI.skip {ts:List Tok} {k:Nat} {O:Bs} {t:Tok} (h:JI ts k O) (ht:ts[k]?=some t) (ho:okT t=true) (hl:2000<O.length):JI ts (k+1) O:=by
 refine⟨by rw[take_snocT ht,List.all_append,h.ok];simp[ho],.inr ⟨hl,?_⟩,h.len⟩;rw[take_snocT ht,joinT_snoc,List.length_append,List.length_append]
 rcases h.out with e | e
 ·rw[←e];omega
 ·omega
theorem JI.first {ts:List Tok} {k:Nat} {O:Bs} {t:Tok} (h:JI ts k O) (hk:k=0) (ht:ts[k]?=some t) (ho:okT t=true) (hf:FitT t) (hl:¬ 2000<O.length):JI ts (k+1) (O++textT t):=by
 subst hk;have:=textT_len hf;refine⟨by rw[take_snocT ht,List.all_append,h.ok];simp[ho],.inl ?_,by rw[List.length_append];omega⟩
 rcases h.out with e | e
 ·rw[take_snocT ht,joinT_snoc,←e];simp
 ·omega
theorem JI.more {ts:List Tok} {k:Nat} {O:Bs} {t:Tok} (h:JI ts k O) (hk:0<k) (ht:ts[k]?=some t) (ho:okT t=true) (hf:FitT t) (hl:¬ 2000<O.length):JI ts (k+1) (O++[32]++textT t):=by
 have:=textT_len hf;refine⟨by rw[take_snocT ht,List.all_append,h.ok];simp[ho],.inl ?_,by simp;omega⟩
 have hne:¬ ts.take k=[]:=by
  intro e;have h1:=congrArg List.length e;have h2:=(List.getElem?_eq_some_iff.1 ht).1;rw[List.length_take,List.length_nil] at h1;omega
 rcases h.out with e | e
 ·rw[take_snocT ht,joinT_snoc,if_neg hne,←e]
 ·omega
theorem JI.bad {ts:List Tok} {k:Nat} {t:Tok} (ht:ts[k]?=some t) (ho:okT t=false):joinE ts=5∧joinB ts=⟨#[]⟩:=by
 have:ts.all okT=false:=by rw[List.all_eq_false];exact⟨t,List.mem_of_getElem? ht,by simp[ho]⟩
 unfold joinE joinB;rw[this];exact⟨rfl,by simp⟩
theorem JI.long {ts:List Tok} {k:Nat} {O:Bs} (h:JI ts k O) (hk:¬ k<ts.length) (hl:2000<O.length):joinE ts=2∧joinB ts=⟨#[]⟩:=by
 have h1:=h.ok;have h2:=h.out;rw[List.take_of_length_le (by omega)] at h1 h2
 have h3:2000<(joinT ts).length:=by
  rcases h2 with e | e
  ·rw[←e];exact hl
  ·exact e.2
 unfold joinE joinB;rw[h1,if_pos rfl,if_pos h3,if_neg (by simp;omega)];exact⟨rfl,rfl⟩
theorem JI.done {ts:List Tok} {k:Nat} {O:Bs} (h:JI ts k O) (hk:¬ k<ts.length) (hl:¬ 2000<O.length):joinE ts=0∧joinB ts=⟨O.toArray⟩:=by
 have h1:=h.ok;have h2:=h.out;rw[List.take_of_length_le (by omega)] at h1 h2
 have h3:O=joinT ts:=by
  rcases h2 with e | e
  ·exact e
  ·omega
 unfold joinE joinB;rw[←h3,h1,if_pos rfl,if_neg hl,if_pos ⟨rfl,hl⟩];exact⟨rfl,rfl⟩
abbrev RowO (B:Nat) (w0 w:World) (v:Value) (O:Bs):Prop:=Two2 B w0 w (.slice none 0 0) v [] O
theorem RowO.str {B:Nat} {w0 w w':World} {v v':Value} {O:Bs} {s:ByteArray} (u:Bs) (hu:s.data.toList=u) (h:RowO B w0 w v O)
  (ho:w'.ownsRow B 5 1 v' (O.length+s.size) (byteCells O++Lib.strCells s)) (hg:w.grownBy w' v.ownBlock):RowO B w0 w' v' (O++u):=by
 have e:s.size=u.length:=by rw[←len_data,hu]
 rw[Lib.strCells_eq,hu,e] at ho;exact h.bytes u ho hg
theorem conv_any {w:World} {B:Nat} {v:Value} {t:Bs} (h:w.ownsRow B 5 1 v t.length (byteCells t)):(v= .slice none 0 0∧t=[])∨∃ g c,v= .slice (some ⟨g,0,none⟩) t.length c∧(convert 81 9 v).run Tryz.prog w= .ok (.string ⟨t.toArray⟩) w:=by
 rcases text_form h with ⟨e,e2⟩ | ⟨g,cap,rfl,_⟩
 ·exact .inl ⟨e,e2⟩
 ·exact .inr ⟨g,cap,rfl,text_conv h⟩
theorem tsmall_no (c:UInt8) (w:World):Calls Tryz.prog 96 #[.int .u8 c.toNat,.bool false] w fun e w'=>e= .returned (.bool (isLow c))∧w=w':=by
 obtain⟨n,hn⟩:∃ n:Int,n=c.toNat:=⟨_,rfl⟩;have e:isLow c=decide (97≤n∧n≤122):=by rw[hn];rfl
 rw[e,←hn];clear e hn;by_cases h1:97≤n <;> by_cases h2:n≤122
 all_goals
  go_enter Tryz.func96,Tryz.ntmps96;go_wp2;go_ret;exact⟨ret_bool (by simp[h1,h2]),rfl⟩
theorem tsmall_yes (c:UInt8) (w:World):Calls Tryz.prog 96 #[.int .u8 c.toNat,.bool true] w fun e w'=>e= .returned (.bool (isIn c))∧w=w':=by
 obtain⟨n,hn⟩:∃ n:Int,n=c.toNat:=⟨_,rfl⟩;have e:isIn c=(decide (97≤n∧n≤122) || decide (48≤n∧n≤57) || decide (n=95)):=by rw[hn];rfl
 rw[e,←hn];clear e hn;obtain⟨v,hv⟩:∃ v,v=(decide (97≤n∧n≤122) || decide (48≤n∧n≤57) || decide (n=95)):=⟨_,rfl⟩;rw[←hv];have HV:=Lib.hid hv;clear hv;by_cases h0:n=95
 ·subst h0
  go_enter Tryz.func96,Tryz.ntmps96;go_wp2;go_ret;exact⟨ret_bool (by rw[HV.out];rfl),rfl⟩
 ·have hb:(n==95)=false:=by simpa using h0
  by_cases h1:97≤n
  ·have h3:48≤n:=by omega
   have h4:¬ n≤57:=by omega
   by_cases h2:n≤122
   all_goals
    go_enter Tryz.func96,Tryz.ntmps96;go_wp2;go_ret;exact⟨ret_bool (by rw[HV.out];simp;omega),rfl⟩
  ·by_cases h3:48≤n <;> by_cases h4:n≤57
   all_goals
    go_enter Tryz.func96,Tryz.ntmps96;go_wp2;go_ret;exact⟨ret_bool (by rw[HV.out];simp;omega),rfl⟩
theorem rrun_in (s:ByteArray) (k:Nat) (hk:k≤s.size) (hs:s.size≤1000000) (w:World):
  Calls Tryz.prog 97 #[.string s,.int .i64 k,.bool false] w fun e w'=>e= .returned (.int .i64 ((k+runL isIn (s.data.toList.drop k):Nat):Int))∧w=w':=by
 obtain⟨N,hN⟩:∃ N,N=k+runL isIn (s.data.toList.drop k):=⟨_,rfl⟩;rw[←hN];have HN:=Lib.hid hN;clear hN;go_enter Tryz.func97,Tryz.ntmps97;go_wp2
 go_loop [1] (fun a=>∃ j:Nat,j≤s.size∧a= .int .i64 j∧N=j+runL isIn (s.data.toList.drop j)) (fun a=>s.size - (intOf a).toNat)
 case atStart=>exact⟨k,hk,rfl,HN.out⟩
 case round=>
  obtain⟨j,hj,rfl,hn⟩:=hrel;have HJ:=Lib.hid hn;clear hn;by_cases a:j<s.size
  ·have K:=Lib.hid fun w=>tsmall_yes s[j] w
   have hr:=runL_at isIn s j a;by_cases c:isIn s[j]=true
   ·rw[c] at K
    have HX:Hid (N=(j+1)+runL isIn (s.data.toList.drop (j+1))):=by apply Lib.hid;rw[HJ.out,hr,if_pos c];omega
    clear hr c;go_wp2_with (go_at_call 96;((with_reducible refine(K.out _).mono ?_));rintro e w' ⟨rfl,rfl⟩)
    go_round
    case rel=>exact⟨j+1,by omega,by go_num,HX.out⟩
    case measure=>simp[intOf];omega
   ·rw[Bool.eq_false_iff.2 c] at K
    have HX:Hid (j=N):=by apply Lib.hid;rw[HJ.out,hr,if_neg c];omega
    clear hr c;go_wp2_with (go_at_call 96;((with_reducible refine(K.out _).mono ?_));rintro e w' ⟨rfl,rfl⟩);go_ret;exact⟨ret_int (by rw[HX.out]),rfl⟩
  ·have HX:Hid (j=N):=by apply Lib.hid;rw[HJ.out,runL_past _ _ _ a];omega
   go_wp2;go_ret;exact⟨ret_int (by rw[HX.out]),rfl⟩
theorem rrun_dig (s:ByteArray) (k:Nat) (hk:k≤s.size) (hs:s.size≤1000000) (w:World):
  Calls Tryz.prog 97 #[.string s,.int .i64 k,.bool true] w fun e w'=>e= .returned (.int .i64 ((k+runL isDig (s.data.toList.drop k):Nat):Int))∧w=w':=by
 obtain⟨N,hN⟩:∃ N,N=k+runL isDig (s.data.toList.drop k):=⟨_,rfl⟩;rw[←hN];have HN:=Lib.hid hN;clear hN;go_enter Tryz.func97,Tryz.ntmps97;go_wp2
 go_loop [1] (fun a=>∃ j:Nat,j≤s.size∧a= .int .i64 j∧N=j+runL isDig (s.data.toList.drop j)) (fun a=>s.size - (intOf a).toNat)
 case atStart=>exact⟨k,hk,rfl,HN.out⟩
 case round=>
  obtain⟨j,hj,rfl,hn⟩:=hrel;have HJ:=Lib.hid hn;clear hn;by_cases a:j<s.size
  ·have hr:=runL_at isDig s j a
   by_cases c:isDig s[j]=true
   ·have HX:Hid (N=(j+1)+runL isDig (s.data.toList.drop (j+1))):=by apply Lib.hid;rw[HJ.out,hr,if_pos c];omega
    have hc:48≤(s[j].toNat:Int)∧(s[j].toNat:Int)≤57:=by unfold isDig at c;exact of_decide_eq_true c
    obtain⟨c1,c2⟩:=hc;clear hr c;go_wp2
    go_round
    case rel=>exact⟨j+1,by omega,by go_num,HX.out⟩
    case measure=>simp[intOf];omega
   ·have HX:Hid (j=N):=by apply Lib.hid;rw[HJ.out,hr,if_neg c];omega
    have hc:(s[j].toNat:Int)<48∨(48≤(s[j].toNat:Int)∧57<(s[j].toNat:Int)):=by
     unfold isDig at c;have:=of_decide_eq_false (Bool.eq_false_iff.2 c);omega
    clear hr c
    rcases hc with c1 | ⟨c1,c2⟩
    all_goals
     go_wp2;go_ret;exact⟨ret_int (by rw[HX.out]),rfl⟩
  ·have HX:Hid (j=N):=by apply Lib.hid;rw[HJ.out,runL_past _ _ _ a];omega
   go_wp2;go_ret;exact⟨ret_int (by rw[HX.out]),rfl⟩
theorem letters_any (s:ByteArray) (k:Nat) (hk:k≤s.size) (hs:s.size≤1000000) (w:World):
  Calls Tryz.prog 100 #[.string s,.int .i64 k] w fun e w'=>e= .returned (.int .i64 ((k+runL isLow (s.data.toList.drop k):Nat):Int))∧w=w':=by
 obtain⟨N,hN⟩:∃ N,N=k+runL isLow (s.data.toList.drop k):=⟨_,rfl⟩;rw[←hN];have HN:=Lib.hid hN;clear hN;go_enter Tryz.func100,Tryz.ntmps100;go_wp2
 go_loop [1] (fun a=>∃ j:Nat,j≤s.size∧a= .int .i64 j∧N=j+runL isLow (s.data.toList.drop j)) (fun a=>s.size - (intOf a).toNat)
 case atStart=>exact⟨k,hk,rfl,HN.out⟩
 case round=>
  obtain⟨j,hj,rfl,hn⟩:=hrel;have HJ:=Lib.hid hn;clear hn;by_cases a:j<s.size
  ·have K:=Lib.hid fun w=>tsmall_no s[j] w
   have hr:=runL_at isLow s j a;by_cases c:isLow s[j]=true
   ·rw[c] at K
    have HX:Hid (N=(j+1)+runL isLow (s.data.toList.drop (j+1))):=by apply Lib.hid;rw[HJ.out,hr,if_pos c];omega
    clear hr c;go_wp2_with (go_at_call 96;((with_reducible refine(K.out _).mono ?_));rintro e w' ⟨rfl,rfl⟩)
    go_round
    case rel=>exact⟨j+1,by omega,by go_num,HX.out⟩
    case measure=>simp[intOf];omega
   ·rw[Bool.eq_false_iff.2 c] at K
    have HX:Hid (j=N):=by apply Lib.hid;rw[HJ.out,hr,if_neg c];omega
    clear hr c;go_wp2_with (go_at_call 96;((with_reducible refine(K.out _).mono ?_));rintro e w' ⟨rfl,rfl⟩);go_ret;exact⟨ret_int (by rw[HX.out]),rfl⟩
  ·have HX:Hid (j=N):=by apply Lib.hid;rw[HJ.out,runL_past _ _ _ a];omega
   go_wp2;go_ret;exact⟨ret_int (by rw[HX.out]),rfl⟩
theorem rflag_any (s:ByteArray) (w:World):Calls Tryz.prog 101 #[.string s] w fun e w'=>e= .returned (.bool (isFlagL s.data.toList))∧w=w':=by
 by_cases h:isFlagL s.data.toList=true
 ·rw[h]
  unfold isFlagL at h
  rcases of_decide_eq_true h with h | h | h | h
  all_goals
   obtain rfl:=ba_eq s _ h;clear h;go_enter Tryz.func101,Tryz.ntmps101;go_wp2;go_ret;exact⟨rfl,rfl⟩
 ·have h:=Bool.eq_false_iff.2 h
  rw[h];unfold isFlagL at h;have h:=of_decide_eq_false h;have n0:=not_list (fun e=>h (.inl e));have n1:=not_list (fun e=>h (.inr (.inl e)));have n2:=not_list (fun e=>h (.inr (.inr (.inl e))));have n3:=not_list (fun e=>h (.inr (.inr (.inr e))));clear h;go_enter Tryz.func101,Tryz.ntmps101;go_wp2;go_ret;exact⟨rfl,rfl⟩
end Go.Proofs.YtdobinjbejagcaaGreatDoor
