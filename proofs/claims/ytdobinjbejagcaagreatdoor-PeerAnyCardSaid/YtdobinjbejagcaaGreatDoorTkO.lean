import Derived.Test.YtdobinjbejagcaaGreatDoorTkG
import Derived.Deep.QuietTactic
import Derived.BigQuiet
import Derived.RegionTactic
import Derived.ChangeAlike
import Derived.Laws.BytesArg
namespace Go.Proofs.YtdobinjbejagcaaGreatDoor
open Go Go.RowKit
set_option maxRecDepth 100000
set_option maxHeartbeats 4000000
def endO (k:Nat) (R:TR):Nat:=match R with | .bad _ _=>0 | .ok _ q=>k+q
def badO (k:Nat) (R:TR):Nat:=match R with | .bad q _=>k+q | .ok _ _=>0
def PostO (w0:World) (k:Nat) (R:TR) (e:Ending) (w':World):Prop:=
 ∃ (t:Tok) (v:Value),e= .returned (.tuple #[tokV t v,.int .i64 (endO k R),.int .i64 (badO k R),.int .i64 (errR R)])∧OwnP w0.heap.size w' v t.parts∧Below w0.heap.size w0 w'∧∀ t' q,R= .ok t' q→withPl t' k=t
theorem isWordL_run (l:Bs) (h:lowHead l=true):isWordL (l.take (runL isIn l))=decide (runL isIn l≤14):=by
 cases l with
 | nil=>cases h
 | cons c r=>
   have hc:isLow c=true:=h;have hi:=low_in c hc;have hall:=runL_all isIn r;have hle:=runL_le isIn r;rw[runL_cons,if_pos hi,List.take_succ_cons];show (isLow c && (r.take (runL isIn r)).all isIn && decide ((r.take (runL isIn r)).length≤13))=_;rw[hc,hall,List.length_take,Nat.min_eq_left hle,Bool.true_and,Bool.true_and];rw[Bool.eq_iff_iff,decide_eq_true_iff,decide_eq_true_iff];omega
theorem lowHead_run (l:Bs):lowHead l=decide (0<runL isLow l):=by
 cases l with
 | nil=>rfl
 | cons c r=>
   rw[runL_cons];show isLow c=_;by_cases h:isLow c=true
   ·rw[h,if_pos rfl];simp
   ·rw[Bool.eq_false_iff.2 h,if_neg (by decide)];rfl
theorem mayW_1 (w:Bs):mayW 1 w=isWordL w:=rfl
theorem mayW_4 (w:Bs):mayW 4 w=isSignL w:=by unfold mayW;rw[if_neg (by decide),if_pos rfl]
theorem mayW_5 (w:Bs):mayW 5 w=isFlagL w:=by unfold mayW;rw[if_neg (by decide),if_neg (by decide),if_pos rfl]
theorem mayW_6 (w:Bs):mayW 6 w=isName w:=by unfold mayW;rw[if_neg (by decide),if_neg (by decide),if_neg (by decide),if_pos rfl]
theorem postO_bad {w w':World} {k:Nat} (h:Below w.heap.size w w') (x:Int):PostO w k (.bad 0 x) (.returned (.tuple #[.agg #[.int .i64 0,.string ⟨#[]⟩,.int .i64 0,.slice none 0 0,.int .i64 0],.int .i64 0,.int .i64 k,.int .i64 x])) w':=
 ⟨⟨0,[],0,[],0⟩,.slice none 0 0,rfl,World.ownsRow_nil _ _ _ _,h,fun t' q h=>by cases h⟩
theorem postO_word {w w':World} {s:ByteArray} {k f n q p:Nat} {kd:Int} {E:ByteArray} (hE:E=s.extract f (f+n)) (h:Below w.heap.size w w') (hp:p=k+q):PostO w k (.ok ⟨kd,(s.data.toList.drop f).take n,0,[],0⟩ q) (.returned (.tuple #[.agg #[.int .i64 kd,.string E,.int .i64 0,.slice none 0 0,.int .i64 k],.int .i64 p,.int .i64 0,.int .i64 0])) w':=by
 rw[hE,ext_eq,hp];exact⟨⟨kd,(s.data.toList.drop f).take n,0,[],k⟩,.slice none 0 0,rfl,World.ownsRow_nil _ _ _ _,h,fun t' q h=>by injection h with h _;subst h;rfl⟩
theorem one_word (s:ByteArray) (k:Nat) (hk:k<s.size) (hs:s.size≤4000) (hl:isLow s[k]=true) (w:World):
  Calls Tryz.prog 63 #[.string s,.int .i64 k] w (PostO w k (tokR (s.data.toList.drop k))):=by
 obtain⟨h34,hd,h36,h45⟩:=head_low _ hl;obtain⟨R,hR⟩:∃ R,R=tokR (s.data.toList.drop k):=⟨_,rfl⟩;rw[←hR]
 replace hR:R=wordR 1 ((s.data.toList.drop k).take (runL isIn (s.data.toList.drop k))) (runL isIn (s.data.toList.drop k)):=by
  rw[hR]
  conv=>lhs;rw[drop_at s k hk]
  unfold tokR;dsimp only;rw[if_neg h34,if_neg (by rw[hd];decide),if_pos hl,←drop_at s k hk]
 have hlow:lowHead (s.data.toList.drop k)=true:=by rw[drop_at s k hk];exact hl
 have hw:=isWordL_run _ hlow;have KR:=Lib.hid fun w=>rrun_in s k (by omega) (by omega) w
 have hrun:=runL_le isIn (s.data.toList.drop k);rw[List.length_drop,len_data] at hrun;generalize runL isIn (s.data.toList.drop k)=n at KR hrun hR hw;have KL:=Lib.hid fun w=>tsmall_no s[k] w
 rw[hl] at KL;obtain⟨q,hq⟩:∃ q,q=k+n:=⟨_,rfl⟩;unfold wordR at hR;rw[mayW_1,hw] at hR;have hE:s.extract k q=s.extract k (k+n):=by rw[hq]
 have HE:=Lib.hid hE;have HQ:=Lib.hid hq;have hqn:(q:Int) - k=n:=by omega
 have hqk:k≤q:=by omega
 have hqs:q≤s.size:=by omega
 rw[←hq] at KR;by_cases h14:n≤14
 ·rw[decide_eq_true h14,if_pos rfl] at hR
  have HR:=Lib.hid hR;have h14':¬ (14:Int)<(q:Int) - k:=by omega
  clear hR h34 hd hl h36 h45 hrun hq hw hlow hE hqn;go_enter Tryz.func63,Tryz.ntmps63;go_wp2_with (first | (go_at_call 96;((with_reducible refine(KL.out _).mono ?_));rintro e w' ⟨rfl,rfl⟩) | (go_at_call 97;((with_reducible refine(KR.out _).mono ?_));rintro e w' ⟨rfl,rfl⟩));rw[HR.out];exact bodyPost_ret (v:= .tuple #[.agg #[.int .i64 1,.string (s.extract k q),.int .i64 0,.slice none 0 0,.int .i64 k],.int .i64 q,.int .i64 0,.int .i64 0]) (by simp[results,Tryz.results63,go_sem]) rfl (postO_word HE.out ((Below.refl _ _).alloc (Nat.le_refl _) _) HQ.out)
 ·rw[decide_eq_false h14,if_neg (by decide)] at hR
  have HR:=Lib.hid hR;have h14':(14:Int)<(q:Int) - k:=by omega
  clear hR h34 hd hl h36 h45 hrun hq hw hlow hE hqn;go_enter Tryz.func63,Tryz.ntmps63;go_wp2_with (first | (go_at_call 96;((with_reducible refine(KL.out _).mono ?_));rintro e w' ⟨rfl,rfl⟩) | (go_at_call 97;((with_reducible refine(KR.out _).mono ?_));rintro e w' ⟨rfl,rfl⟩));rw[HR.out];exact bodyPost_ret (v:= .tuple #[.agg #[.int .i64 0,.string ⟨#[]⟩,.int .i64 0,.slice none 0 0,.int .i64 0],.int .i64 0,.int .i64 k,.int .i64 1]) (by simp[results,Tryz.results63,go_sem]) rfl (postO_bad ((Below.refl _ _).alloc (Nat.le_refl _) _) 1)
theorem one_num (s:ByteArray) (k:Nat) (hk:k<s.size) (hs:s.size≤4000) (hd:isDig s[k]=true) (w:World):
  Calls Tryz.prog 63 #[.string s,.int .i64 k] w (PostO w k (tokR (s.data.toList.drop k))):=by
 have hdl:∀ c:UInt8,isDig c=true→c≠34∧isLow c=false:=all256 _ (by decide+kernel);obtain⟨h34,hl⟩:=hdl _ hd
 have hR:tokR (s.data.toList.drop k)=numT (s.data.toList.drop k):=by
  rw[drop_at s k hk];unfold tokR;dsimp only;rw[if_neg h34,if_pos hd]
 rw[hR,numT_cases];have KR:=Lib.hid fun w=>rrun_dig s k (by omega) (by omega) w
 have hrun:=runL_le isDig (s.data.toList.drop k);have hall:=runL_all isDig (s.data.toList.drop k);have h0:0<runL isDig (s.data.toList.drop k):=by rw[runL_at isDig s k hk,if_pos hd];omega
 rw[List.length_drop,len_data] at hrun;generalize runL isDig (s.data.toList.drop k)=n at KR hrun hall h0 ⊢
 have hx:(s.extract k (k+n)).size≤4000:=by
  rw[←len_data,ext_data,List.length_take,List.length_drop,len_data];omega
 have hne:(s.data.toList.drop k).take n≠[]:=by
  intro e;have:=congrArg List.length e;rw[List.length_take,List.length_drop,len_data,List.length_nil] at this;omega
 have hsp:=numR_spec _ hall hne;obtain⟨n0,n1,n2⟩:=numR_facts ((s.data.toList.drop k).take n);rw[←ext_data] at hsp;have KP:=Lib.hid fun w=>rparse_anyN _ hx _ _ hsp w
 rw[ext_data] at KP;generalize numR ((s.data.toList.drop k).take n)=R at KP n0 n1 n2 ⊢;obtain⟨v,x⟩:=R;dsimp only at KP n0 n1 n2 ⊢;have hdn:48≤(s[k].toNat:Int)∧(s[k].toNat:Int)≤57:=by unfold isDig at hd;exact of_decide_eq_true hd
 obtain⟨d1,d2⟩:=hdn;have KL:=Lib.hid fun w=>tsmall_no s[k] w
 rw[hl] at KL;obtain⟨q,hq⟩:∃ q,q=k+n:=⟨_,rfl⟩;have HQ:=Lib.hid hq;rw[←hq] at KR KP;have q1:k≤q:=by omega
 have q2:q≤s.size:=by omega
 clear hsp hne hx hall hd hq hrun h0 hR h34 hl hdl;by_cases hx0:x=0
 ·subst hx0
  rw[if_pos rfl];go_enter Tryz.func63,Tryz.ntmps63;go_wp2_with (first | (go_at_call 96;((with_reducible refine(KL.out _).mono ?_));rintro e w' ⟨rfl,rfl⟩) | (go_at_call 97;((with_reducible refine(KR.out _).mono ?_));rintro e w' ⟨rfl,rfl⟩) | (go_at_call 98;((with_reducible refine(KP.out _).mono ?_));rintro e w' ⟨rfl,rfl⟩));refine bodyPost_ret (v:= .tuple #[tokV ⟨2,[],v,[],k⟩ (.slice none 0 0),.int .i64 q,.int .i64 0,.int .i64 0]) (by simp[results,Tryz.results63,go_sem,tokV]) rfl ⟨_,_,?_,World.ownsRow_nil _ _ _ _,(Below.refl _ _).alloc (Nat.le_refl _) _,fun t' q h=>by injection h with h _;subst h;rfl⟩;rw[HQ.out];rfl
 ·rw[if_neg hx0]
  have hb0:(x != 0)=true:=by simpa using hx0
  clear hx0;go_enter Tryz.func63,Tryz.ntmps63;go_wp2_with (first | (go_at_call 96;((with_reducible refine(KL.out _).mono ?_));rintro e w' ⟨rfl,rfl⟩) | (go_at_call 97;((with_reducible refine(KR.out _).mono ?_));rintro e w' ⟨rfl,rfl⟩) | (go_at_call 98;((with_reducible refine(KP.out _).mono ?_));rintro e w' ⟨rfl,rfl⟩));exact bodyPost_ret (v:= .tuple #[tokV ⟨0,[],0,[],0⟩ (.slice none 0 0),.int .i64 0,.int .i64 k,.int .i64 x]) (by simp[results,Tryz.results63,go_sem,tokV]) rfl ⟨_,_,rfl,World.ownsRow_nil _ _ _ _,(Below.refl _ _).alloc (Nat.le_refl _) _,fun t' q h=>by cases h⟩
theorem one_text (s:ByteArray) (k:Nat) (hk:k<s.size) (hs:s.size≤4000) (h34:s[k]=34) (w:World):
  Calls Tryz.prog 63 #[.string s,.int .i64 k] w (PostO w k (tokR (s.data.toList.drop k))):=by
 have hR:tokR (s.data.toList.drop k)=textA (parse (s.data.toList.drop k)):=by
  rw[drop_at s k hk];unfold tokR;dsimp only;rw[if_pos h34];rfl
 rw[hR];have hl:isLow s[k]=false:=by rw[h34];decide
 have KP:=Lib.hid fun w=>rparse_any (s.extract k s.size) (by rw[ByteArray.size_extract];omega) w
 rw[ext_tail] at KP;have hbd:=(parse_bd (s.data.toList.drop k)).1;rw[List.length_drop,len_data] at hbd;generalize parse (s.data.toList.drop k)=R at KP hbd ⊢;obtain⟨o,q⟩:=R;dsimp only at hbd
 have KP:Hid (∀ w,Calls Tryz.prog 99 #[.string (s.extract k s.size)] w fun e w'=>∃ A c,e= .returned (.tuple #[.slice A (outOf o).length c,.int .i64 q,.int .i64 (errOf o)])∧OwnP w.heap.size w' (.slice A (outOf o).length c) (outOf o)∧Below w.heap.size w w'):=Lib.hid fun w=>(KP.out w).mono fun e w' ⟨v,he,ho,hb⟩=>by
  obtain⟨A,c,rfl,_⟩:=rd_of_own (ps:=outOf o) ho;exact⟨A,c,he,ho,hb⟩
 have KL:=Lib.hid fun w=>tsmall_no s[k] w
 rw[hl] at KL;have b34:((s[k].toNat:Int)==34)=true:=byte_eq (n:=34) h34 (by omega);have b48:(s[k].toNat:Int)<48:=by rw[h34];decide
 clear hR h34 hl
 cases o with
 | none=>
   go_enter Tryz.func63,Tryz.ntmps63;go_wp2_with (first | (go_at_call 96;((with_reducible refine(KL.out _).mono ?_));rintro e w' ⟨rfl,rfl⟩) | (go_at_call 99;((with_reducible refine(KP.out _).mono ?_));rintro e w' ⟨A,c,rfl,ho,hb⟩;obtain⟨hc,hfz⟩:=bcell hb;have hz:=size_le hb;have HB:=Lib.hid hb;clear hb ho));refine bodyPost_ret (v:= .tuple #[tokV ⟨0,[],0,[],0⟩ (.slice none 0 0),.int .i64 0,.int .i64 ((k:Int)+q),.int .i64 1]) (by simp[results,Tryz.results63,go_sem,hc,tokV]) rfl ⟨⟨0,[],0,[],0⟩,.slice none 0 0,?_,World.ownsRow_nil _ _ _ _,box5_below HB.out _ _ _ _ _,fun t' q h=>by cases h⟩
   rfl
 | some ps=>
   go_enter Tryz.func63,Tryz.ntmps63;go_wp2_with (first | (go_at_call 96;((with_reducible refine(KL.out _).mono ?_));rintro e w' ⟨rfl,rfl⟩) | (go_at_call 99;((with_reducible refine(KP.out _).mono ?_));rintro e w' ⟨A,c,rfl,ho,hb⟩;obtain⟨hc,hfz⟩:=bcell hb;have hz:=size_le hb;have HB:=Lib.hid hb;have HO:=Lib.hid ho;clear hb ho));refine bodyPost_ret (v:= .tuple #[tokV ⟨3,[],0,ps,k⟩ (.slice A ps.length c),.int .i64 ((k:Int)+q),.int .i64 0,.int .i64 0]) (by simp[results,Tryz.results63,go_sem,hc,tokV,outOf]) rfl ⟨⟨3,[],0,ps,k⟩,.slice A ps.length c,?_,box5_own HO.out _ _ _ _ _,box5_below HB.out _ _ _ _ _,fun t' q' h=>?_⟩
   ·rfl
   ·injection h with h _;subst h;rfl
theorem one_var (s:ByteArray) (k:Nat) (hk:k<s.size) (hs:s.size≤4000) (h36:s[k]=36) (w:World):
  Calls Tryz.prog 63 #[.string s,.int .i64 k] w (PostO w k (tokR (s.data.toList.drop k))):=by
 have hd:isDig s[k]=false:=by rw[h36];decide
 have hl:isLow s[k]=false:=by rw[h36];decide
 obtain⟨R,hR⟩:∃ R,R=tokR (s.data.toList.drop k):=⟨_,rfl⟩;rw[←hR]
 replace hR:R=wordR 6 ((s.data.toList.drop (k+1)).take (runL isIn (s.data.toList.drop (k+1)))) (runL isIn (s.data.toList.drop (k+1))+1):=by
  rw[hR]
  conv=>lhs;rw[drop_at s k hk]
  unfold tokR;dsimp only;rw[if_neg (by rw[h36];decide),if_neg (by rw[hd];decide),if_neg (by rw[hl];decide),if_pos h36]
 have KR:=Lib.hid fun w=>rrun_in s (k+1) (by omega) (by omega) w
 have hrun:=runL_le isIn (s.data.toList.drop (k+1));rw[List.length_drop,len_data] at hrun;generalize runL isIn (s.data.toList.drop (k+1))=n at KR hrun hR;obtain⟨q,hq⟩:∃ q,q=k+1+n:=⟨_,rfl⟩
 have hx:(s.extract (k+1) (k+1+n)).size≤4611686018427387904:=by
  rw[←len_data,ext_data,List.length_take,List.length_drop,len_data];omega
 have KN:=Lib.hid fun w=>rname_any (s.extract (k+1) (k+1+n)) hx w
 rw[ext_data] at KN;unfold wordR at hR;rw[mayW_6] at hR;have KR:Hid (∀ w,Calls Tryz.prog 97 #[.string s,.int .i64 ((k:Int)+1),.bool false] w fun e w'=>e= .returned (.int .i64 ((k+1+n:Nat):Int))∧w=w'):=Lib.hid fun w=>KR.out w
 have hE:s.extract (k+1) q=s.extract (k+1) (k+1+n):=by rw[hq]
 have HE:=Lib.hid hE;have HQ:Hid (q=k+(n+1)):=Lib.hid (by omega);have q1:k+1≤q:=by omega
 have q2:q≤s.size:=by omega
 rw[←hq] at KR KN;have b34:((s[k].toNat:Int)==34)=false:=byte_ne (n:=34) (by rw[h36];decide) (by omega);have b36:((s[k].toNat:Int)==36)=true:=byte_eq (n:=36) h36 (by omega);have b48:(s[k].toNat:Int)<48:=by rw[h36];decide
 have KL:=Lib.hid fun w=>tsmall_no s[k] w
 rw[hl] at KL;by_cases hm:isName ((s.data.toList.drop (k+1)).take n)=true
 ·rw[hm] at hR KN
  rw[if_pos rfl] at hR;have HR:=Lib.hid hR;clear hR hd hl h36 hrun hq hm hE hx;go_enter Tryz.func63,Tryz.ntmps63;go_wp2_with (first | (go_at_call 96;((with_reducible refine(KL.out _).mono ?_));rintro e w' ⟨rfl,rfl⟩) | (go_at_call 97;((with_reducible refine(KR.out _).mono ?_));rintro e w' ⟨rfl,rfl⟩) | (go_at_call 26;((with_reducible refine(KN.out _).mono ?_));rintro e w' ⟨rfl,rfl⟩));rw[HR.out];exact bodyPost_ret (v:= .tuple #[.agg #[.int .i64 6,.string (s.extract (k+1) q),.int .i64 0,.slice none 0 0,.int .i64 k],.int .i64 q,.int .i64 0,.int .i64 0]) (by simp[results,Tryz.results63,go_sem]) rfl (postO_word HE.out ((Below.refl _ _).alloc (Nat.le_refl _) _) HQ.out)
 ·rw[Bool.eq_false_iff.2 hm] at hR KN
  rw[if_neg (by decide)] at hR;have HR:=Lib.hid hR;clear hR hd hl h36 hrun hq hm hE hx;go_enter Tryz.func63,Tryz.ntmps63;go_wp2_with (first | (go_at_call 96;((with_reducible refine(KL.out _).mono ?_));rintro e w' ⟨rfl,rfl⟩) | (go_at_call 97;((with_reducible refine(KR.out _).mono ?_));rintro e w' ⟨rfl,rfl⟩) | (go_at_call 26;((with_reducible refine(KN.out _).mono ?_));rintro e w' ⟨rfl,rfl⟩));rw[HR.out];exact bodyPost_ret (v:= .tuple #[.agg #[.int .i64 0,.string ⟨#[]⟩,.int .i64 0,.slice none 0 0,.int .i64 0],.int .i64 0,.int .i64 k,.int .i64 1]) (by simp[results,Tryz.results63,go_sem]) rfl (postO_bad ((Below.refl _ _).alloc (Nat.le_refl _) _) 1)
theorem one_flag (s:ByteArray) (k:Nat) (hk:k<s.size) (hs:s.size≤4000) (h45:s[k]=45) (hlow:lowHead (s.data.toList.drop (k+1))=true) (w:World):
  Calls Tryz.prog 63 #[.string s,.int .i64 k] w (PostO w k (tokR (s.data.toList.drop k))):=by
 have hd:isDig s[k]=false:=by rw[h45];decide
 have hl:isLow s[k]=false:=by rw[h45];decide
 obtain⟨R,hR⟩:∃ R,R=tokR (s.data.toList.drop k):=⟨_,rfl⟩;rw[←hR]
 replace hR:R=wordR 5 ((s.data.toList.drop (k+1)).take (runL isLow (s.data.toList.drop (k+1)))) (runL isLow (s.data.toList.drop (k+1))+1):=by
  rw[hR]
  conv=>lhs;rw[drop_at s k hk]
  unfold tokR;dsimp only;rw[if_neg (by rw[h45];decide),if_neg (by rw[hd];decide),if_neg (by rw[hl];decide),if_neg (by rw[h45];decide),if_pos ⟨h45,hlow⟩]
 have hpos:0<runL isLow (s.data.toList.drop (k+1)):=by rw[lowHead_run] at hlow;exact of_decide_eq_true hlow
 have KR:=Lib.hid fun w=>letters_any s (k+1) (by omega) (by omega) w
 have hrun:=runL_le isLow (s.data.toList.drop (k+1));rw[List.length_drop,len_data] at hrun;generalize runL isLow (s.data.toList.drop (k+1))=n at KR hrun hR hpos;obtain⟨q,hq⟩:∃ q,q=k+1+n:=⟨_,rfl⟩
 have hx:(s.extract (k+1) (k+1+n)).size≤4611686018427387904:=by
  rw[←len_data,ext_data,List.length_take,List.length_drop,len_data];omega
 have KN:=Lib.hid fun w=>rflag_any (s.extract (k+1) (k+1+n)) w
 rw[ext_data] at KN;unfold wordR at hR;rw[mayW_5] at hR;have KR:Hid (∀ w,Calls Tryz.prog 100 #[.string s,.int .i64 ((k:Int)+1)] w fun e w'=>e= .returned (.int .i64 ((k+1+n:Nat):Int))∧w=w'):=Lib.hid fun w=>KR.out w
 have hE:s.extract (k+1) q=s.extract (k+1) (k+1+n):=by rw[hq]
 have HE:=Lib.hid hE;have HQ:Hid (q=k+(n+1)):=Lib.hid (by omega);have q1:k+1<q:=by omega
 have q2:q≤s.size:=by omega
 rw[←hq] at KR KN;have b34:((s[k].toNat:Int)==34)=false:=byte_ne (n:=34) (by rw[h45];decide) (by omega);have b36:((s[k].toNat:Int)==36)=false:=byte_ne (n:=36) (by rw[h45];decide) (by omega);have b45:((s[k].toNat:Int)==45)=true:=byte_eq (n:=45) h45 (by omega);have b48:(s[k].toNat:Int)<48:=by rw[h45];decide
 have KL:=Lib.hid fun w=>tsmall_no s[k] w
 rw[hl] at KL;by_cases hm:isFlagL ((s.data.toList.drop (k+1)).take n)=true
 ·rw[hm] at hR KN
  rw[if_pos rfl] at hR;have HR:=Lib.hid hR;clear hR hd hl h45 hrun hq hm hE hx hlow hpos;go_enter Tryz.func63,Tryz.ntmps63;go_wp2_with (first | (go_at_call 96;((with_reducible refine(KL.out _).mono ?_));rintro e w' ⟨rfl,rfl⟩) | (go_at_call 100;((with_reducible refine(KR.out _).mono ?_));rintro e w' ⟨rfl,rfl⟩) | (go_at_call 101;((with_reducible refine(KN.out _).mono ?_));rintro e w' ⟨rfl,rfl⟩));rw[HR.out];exact bodyPost_ret (v:= .tuple #[.agg #[.int .i64 5,.string (s.extract (k+1) q),.int .i64 0,.slice none 0 0,.int .i64 k],.int .i64 q,.int .i64 0,.int .i64 0]) (by simp[results,Tryz.results63,go_sem]) rfl (postO_word HE.out ((Below.refl _ _).alloc (Nat.le_refl _) _) HQ.out)
 ·rw[Bool.eq_false_iff.2 hm] at hR KN
  rw[if_neg (by decide)] at hR;have HR:=Lib.hid hR;clear hR hd hl h45 hrun hq hm hE hx hlow hpos;go_enter Tryz.func63,Tryz.ntmps63;go_wp2_with (first | (go_at_call 96;((with_reducible refine(KL.out _).mono ?_));rintro e w' ⟨rfl,rfl⟩) | (go_at_call 100;((with_reducible refine(KR.out _).mono ?_));rintro e w' ⟨rfl,rfl⟩) | (go_at_call 101;((with_reducible refine(KN.out _).mono ?_));rintro e w' ⟨rfl,rfl⟩));rw[HR.out];exact bodyPost_ret (v:= .tuple #[.agg #[.int .i64 0,.string ⟨#[]⟩,.int .i64 0,.slice none 0 0,.int .i64 0],.int .i64 0,.int .i64 k,.int .i64 1]) (by simp[results,Tryz.results63,go_sem]) rfl (postO_bad ((Below.refl _ _).alloc (Nat.le_refl _) _) 1)
def sgFind:List Bs→Bs→Nat
 | [],_=>0
 | x::r,l=>if l.take x.length=x then x.length else sgFind r l
theorem sgFind_len (n:Nat) (hn:0<n) (l:Bs):∀ L:List Bs,(∀ x∈L,x.length=n)→sgFind L l=if L.contains (l.take n) then n else 0
 | [],_=>rfl
 | x::r,h=>by
   have hx:=h x (by simp);have ih:=sgFind_len n hn l r (fun y hy=>h y (by simp[hy]));unfold sgFind;rw[hx,ih,List.contains_cons];by_cases e:l.take n=x
   ·rw[if_pos e,if_pos (by simp[e])]
   ·rw[if_neg e]
    have:(l.take n==x)=false:=by simpa using e
    rw[this,Bool.false_or]
theorem sgFind_append (l:Bs):∀ A B:List Bs,(∀ x∈A,0<x.length)→sgFind (A++B) l=if 0<sgFind A l then sgFind A l else sgFind B l
 | [],B,_=>rfl
 | x::r,B,h=>by
   have hx:=h x (by simp);have ih:=sgFind_append l r B (fun y hy=>h y (by simp[hy]));have e1:∀ r,sgFind (x::r) l=if l.take x.length=x then x.length else sgFind r l:=fun _=>rfl
   rw[List.cons_append,e1,e1];by_cases e:l.take x.length=x
   ·rw[if_pos e,if_pos e,if_pos hx]
   ·rw[if_neg e,if_neg e,ih]
def sgn2:List Bs:=[[60,61],[62,61],[61,61],[33,61],[38,38],[124,124]]
def sgn1:List Bs:=[[123],[125],[40],[41],[43],[45],[42],[47],[37],[60],[62],[33]]
theorem sgns_eq:sgns=sgn2++sgn1:=rfl
theorem contains_len {L:List Bs} {n:Nat} (h:∀ x∈L,x.length=n) {w:Bs} (hw:¬ w.length=n):L.contains w=false:=by
 rw[Bool.eq_false_iff];intro hc;exact hw (h w (List.contains_iff_mem.1 hc))
theorem sgFind_signL (l:Bs):sgFind sgns l=signL l:=by
 have h2:∀ x∈sgn2,x.length=2:=by decide
 have h1:∀ x∈sgn1,x.length=1:=by decide
 rw[sgns_eq,sgFind_append l _ _ (by decide),sgFind_len 2 (by decide) l _ h2,sgFind_len 1 (by decide) l _ h1];have hs:∀ w:Bs,isSignL w=(sgn2.contains w || sgn1.contains w):=fun w=>by unfold isSignL;rw[sgns_eq,List.contains_append]
 unfold signL;rw[hs,hs]
 rcases l with _ | ⟨a,_ | ⟨b,r⟩⟩
 ·decide
 ·have t2:([a]:Bs).take 2=[a]:=rfl
  have t1:([a]:Bs).take 1=[a]:=rfl;rw[t2,t1,contains_len h2 (w:=[a]) (by simp)];simp
 ·have t2:(a::b::r:Bs).take 2=[a,b]:=rfl
  have t1:(a::b::r:Bs).take 1=[a]:=rfl;rw[t2,t1,contains_len h1 (w:=[a,b]) (by simp),contains_len h2 (w:=[a]) (by simp),Bool.or_false,Bool.false_or];by_cases e:sgn2.contains [a,b]=true
  ·rw[if_pos e,if_pos (by decide),if_pos e];rfl
  ·rw[if_neg e,if_neg (by decide),if_neg e]
def sgnA:Array Value:=#[.string ⟨#[60,61]⟩,.string ⟨#[62,61]⟩,.string ⟨#[61,61]⟩,.string ⟨#[33,61]⟩,.string ⟨#[38,38]⟩,.string ⟨#[124,124]⟩,.string ⟨#[123]⟩,.string ⟨#[125]⟩,.string ⟨#[40]⟩,.string ⟨#[41]⟩,.string ⟨#[43]⟩,.string ⟨#[45]⟩,.string ⟨#[42]⟩,.string ⟨#[47]⟩,.string ⟨#[37]⟩,.string ⟨#[60]⟩,.string ⟨#[62]⟩,.string ⟨#[33]⟩]
theorem signs_any (w:World):Calls Tryz.prog 102 #[] w fun e w'=>e= .returned (.slice (some ⟨w.heap.size,0,none⟩) 18 18)∧w'=w.alloc (.cells sgnA 9):=by
 go_enter Tryz.func102,Tryz.ntmps102;go_wp2;go_ret;exact⟨rfl,rfl⟩
theorem sgnA_at (i:Nat) (x:Bs) (h:sgns[i]?=some x):sgnA[i]?=some (.string ⟨x.toArray⟩):=by
 have e:sgnA=(sgns.map fun x=>Value.string ⟨x.toArray⟩).toArray:=rfl;rw[e,List.getElem?_toArray,List.getElem?_map,h];rfl
theorem sgns_len:sgns.length=18:=rfl
theorem sgns_sign {i:Nat} {x:Bs} (h:sgns[i]?=some x):isSignL x=true:=by unfold isSignL;exact List.contains_iff_mem.2 (List.mem_of_getElem? h)
theorem sgFind_step {i:Nat} {x:Bs} (h:sgns[i]?=some x) (l:Bs):sgFind (sgns.drop i) l=if l.take x.length=x then x.length else sgFind (sgns.drop (i+1)) l:=by
 obtain⟨hi,e⟩:=List.getElem?_eq_some_iff.1 h;rw[List.drop_eq_getElem_cons hi,e];rfl
abbrev boxS (w:World):World:=(w.alloc (.cells #[.int .i64 0,.string ⟨#[]⟩,.int .i64 0,.slice none 0 0,.int .i64 0] 48)).alloc (.cells sgnA 9)
theorem boxS_at (w:World) {j:Nat} {x:Bs} (h:sgns[j]?=some x):(boxS w).cell? ⟨w.heap.size+1,j,none⟩=some (.string ⟨x.toArray⟩):=by
 have e:(w.alloc (.cells #[.int .i64 0,.string ⟨#[]⟩,.int .i64 0,.slice none 0 0,.int .i64 0] 48)).heap.size=w.heap.size+1:=by simp
 rw[←e];have:=new_cells (w.alloc (.cells #[.int .i64 0,.string ⟨#[]⟩,.int .i64 0,.slice none 0 0,.int .i64 0] 48)) 9 sgnA j _ (by rw[Array.getElem?_toList];exact sgnA_at j x h);have ea:∀ b j:Nat,(⟨b,0,none⟩:Addr).add j=⟨b,j,none⟩:=fun b j=>by unfold Addr.add;split <;> simp_all
 rwa [ea] at this
theorem boxS_put (w:World) (m:Nat) (u0 u1 u2 u3 u4:Value):Below w.heap.size w (put5 ((boxS w).drewN m) w.heap.size u0 u1 u2 u3 u4):=
 (((((below_drewN (((Below.refl _ _).alloc (Nat.le_refl _) _).alloc (by simp) _) m).setCell (Nat.le_refl _) u0).setCell (Nat.le_refl _) u1).setCell (Nat.le_refl _) u2).setCell (Nat.le_refl _) u3).setCell (Nat.le_refl _) u4
theorem one_sign (s:ByteArray) (k:Nat) (hk:k<s.size) (hs:s.size≤4000) (h34:s[k]≠34) (hd:isDig s[k]=false) (hl:isLow s[k]=false) (h36:s[k]≠36) (h45:s[k]≠45) (w:World):
  Calls Tryz.prog 63 #[.string s,.int .i64 k] w (PostO w k (tokR (s.data.toList.drop k))):=by
 have hno:¬ (s[k]=45∧lowHead (s.data.toList.drop (k+1))=true):=fun h=>h45 h.1
 obtain⟨R,hR⟩:∃ R,R=tokR (s.data.toList.drop k):=⟨_,rfl⟩;rw[←hR]
 replace hR:R=wordR 4 ((s.data.toList.drop k).take (signL (s.data.toList.drop k))) (signL (s.data.toList.drop k)):=by
  rw[hR]
  conv=>lhs;rw[drop_at s k hk]
  unfold tokR;dsimp only;rw[if_neg h34,if_neg (by rw[hd];decide),if_neg (by rw[hl];decide),if_neg h36,if_neg hno,←drop_at s k hk]
 have hfs:=sgFind_signL (s.data.toList.drop k);unfold wordR at hR;rw[mayW_4] at hR;have HR:=Lib.hid hR;have HF:=Lib.hid hfs
 have hdn:(s[k].toNat:Int)<48∨(48≤(s[k].toNat:Int)∧57<(s[k].toNat:Int)):=by
  unfold isDig at hd;have:=of_decide_eq_false hd;omega
 have b34:((s[k].toNat:Int)==34)=false:=byte_ne (n:=34) h34 (by omega);have b36:((s[k].toNat:Int)==36)=false:=byte_ne (n:=36) h36 (by omega);have b45:((s[k].toNat:Int)==45)=false:=byte_ne (n:=45) h45 (by omega);have KL:=Lib.hid fun w=>tsmall_no s[k] w
 rw[hl] at KL;have KS:=Lib.hid signs_any;clear hR hfs h34 hd hl h36 h45 hno
 rcases hdn with d1 | ⟨d1,d2⟩
 all_goals
  go_enter Tryz.func63,Tryz.ntmps63;go_wp2_with (first | (go_at_call 96;((with_reducible refine(KL.out _).mono ?_));rintro e w' ⟨rfl,rfl⟩) | (go_at_call 102;((with_reducible refine(KS.out _).mono ?_));rintro e w' ⟨rfl,rfl⟩))
  go_loopw [19] (fun i wr=>∃ j m:Nat,j≤18∧i= .int .i64 j∧signL (s.data.toList.drop k)=sgFind (sgns.drop j) (s.data.toList.drop k)∧wr=(boxS w).drewN m) (fun i _=>18 - (intOf i).toNat)
  case atStart=>exact⟨0,0,by omega,rfl,HF.out.symm,rfl⟩
  case round=>
   obtain⟨j,m,hj,rfl,hsg,rfl⟩:=hrel;have HS:=Lib.hid hsg;clear hsg;by_cases a:j<18
   ·obtain⟨x,hx⟩:∃ x,sgns[j]?=some x:=⟨_,List.getElem?_eq_getElem (by rw[sgns_len];exact a)⟩
    have c0:=boxS_at w hx;obtain⟨X,hX⟩:∃ X:ByteArray,X=⟨x.toArray⟩:=⟨_,rfl⟩;rw[←hX] at c0;have hXl:=sign_len (sgns_sign hx);have hXs:X.size=x.length:=by rw[←len_data,hX]
    rw[←hXs] at hXl;obtain⟨x1,x2⟩:=hXl;have hst:=sgFind_step hx (s.data.toList.drop k);have hxd:X.toList=x:=by rw[toList_data,hX]
    have hed:(s.extract k (k+X.size)).toList=(s.data.toList.drop k).take x.length:=by rw[toList_data,ext_data,hXs]
    have HX:=Lib.hid hx;have HXX:=Lib.hid hX;have HXs:=Lib.hid hXs;by_cases hf:k+X.size≤s.size
    ·have hf1:(k:Int)+X.size≤s.size:=by omega
     have hf2:(k:Int)≤(k:Int)+X.size:=by omega
     by_cases hm:(s.data.toList.drop k).take x.length=x
     ·have hb:((s.extract k (k+X.size)).toList==X.toList)=true:=by rw[hed,hxd,hm];simp
      have HR2:Hid (R= .ok ⟨4,(s.data.toList.drop k).take X.size,0,[],0⟩ X.size):=by
       apply Lib.hid;rw[HR.out,HS.out,hst,if_pos hm,hXs,hm,sgns_sign hx,if_pos rfl]
      have HE:Hid (X=s.extract k (k+X.size)):=by
       apply Lib.hid;rw[ext_eq,hXs,hm,hX]
      clear hx hX hXs hst hxd hed hm;go_wp2;go_quiet (fail);go_wp2;rw[HR2.out];exact bodyPost_ret (v:= .tuple #[.agg #[.int .i64 4,.string X,.int .i64 0,.slice none 0 0,.int .i64 k],.int .i64 ((k:Int)+X.size),.int .i64 0,.int .i64 0]) (by simp[results,Tryz.results63,go_sem]) rfl (postO_word (p:=k+X.size) HE.out (boxS_put w _ _ _ _ _ _) rfl)
     ·have hb:((s.extract k (k+X.size)).toList==X.toList)=false:=by rw[hed,hxd];simpa using hm
      have HS2:Hid (signL (s.data.toList.drop k)=sgFind (sgns.drop (j+1)) (s.data.toList.drop k)):=by
       apply Lib.hid;rw[HS.out,hst,if_neg hm]
      clear hx hX hXs hst hxd hed hm;go_wp2;go_quiet (fail);go_wp2
      go_roundw
      case rel=>exact⟨j+1,_,by omega,by go_num,HS2.out,rfl⟩
      case measure=>simp[intOf];omega
    ·have hm:¬ (s.data.toList.drop k).take x.length=x:=by
      intro e;have:=congrArg List.length e;rw[List.length_take,List.length_drop,len_data] at this;omega
     have hf1:decide ((k:Int)+X.size≤s.size)=false:=by simp;omega
     have HS2:Hid (signL (s.data.toList.drop k)=sgFind (sgns.drop (j+1)) (s.data.toList.drop k)):=by
      apply Lib.hid;rw[HS.out,hst,if_neg hm]
     clear hx hX hXs hst hxd hed hm;go_wp2;go_quiet (fail);go_wp2
     go_roundw
     case rel=>exact⟨j+1,_,by omega,by go_num,HS2.out,rfl⟩
     case measure=>simp[intOf];omega
   ·have HR2:Hid (R= .bad 0 1):=by
     apply Lib.hid;obtain rfl:j=18:=by omega
     have e:signL (s.data.toList.drop k)=0:=HS.out;rw[HR.out,e,List.take_zero,sign_nil,if_neg (by decide)]
    go_wp2;rw[HR2.out];exact bodyPost_ret (v:= .tuple #[.agg #[.int .i64 0,.string ⟨#[]⟩,.int .i64 0,.slice none 0 0,.int .i64 0],.int .i64 0,.int .i64 k,.int .i64 1]) (by simp[results,Tryz.results63,go_sem]) rfl (postO_bad (boxS_put w _ _ _ _ _ _) 1)
theorem one_dash (s:ByteArray) (k:Nat) (hk:k<s.size) (hs:s.size≤4000) (h45:s[k]=45) (hlow:lowHead (s.data.toList.drop (k+1))=false) (w:World):
  Calls Tryz.prog 63 #[.string s,.int .i64 k] w (PostO w k (tokR (s.data.toList.drop k))):=by
 have h34:s[k]≠34:=by rw[h45];decide
 have h36:s[k]≠36:=by rw[h45];decide
 have hd:isDig s[k]=false:=by rw[h45];decide
 have hl:isLow s[k]=false:=by rw[h45];decide
 have hno:¬ (s[k]=45∧lowHead (s.data.toList.drop (k+1))=true):=fun h=>by rw[hlow] at h;cases h.2
 have KR:Hid (∀ w,Calls Tryz.prog 100 #[.string s,.int .i64 ((k:Int)+1)] w fun e w'=>e= .returned (.int .i64 ((k:Int)+1))∧w=w'):=Lib.hid fun w=>by
  have h0:runL isLow (s.data.toList.drop (k+1))=0:=by rw[lowHead_run] at hlow;have:=of_decide_eq_false hlow;omega
  have:=letters_any s (k+1) (by omega) (by omega) w;rw[h0] at this;exact this
 obtain⟨R,hR⟩:∃ R,R=tokR (s.data.toList.drop k):=⟨_,rfl⟩;rw[←hR]
 replace hR:R=wordR 4 ((s.data.toList.drop k).take (signL (s.data.toList.drop k))) (signL (s.data.toList.drop k)):=by
  rw[hR]
  conv=>lhs;rw[drop_at s k hk]
  unfold tokR;dsimp only;rw[if_neg h34,if_neg (by rw[hd];decide),if_neg (by rw[hl];decide),if_neg h36,if_neg hno,←drop_at s k hk]
 have hfs:=sgFind_signL (s.data.toList.drop k);unfold wordR at hR;rw[mayW_4] at hR;have HR:=Lib.hid hR;have HF:=Lib.hid hfs;have d1:(s[k].toNat:Int)<48:=by rw[h45];decide
 have b34:((s[k].toNat:Int)==34)=false:=byte_ne (n:=34) h34 (by omega);have b36:((s[k].toNat:Int)==36)=false:=byte_ne (n:=36) h36 (by omega);have b45:((s[k].toNat:Int)==45)=true:=byte_eq (n:=45) h45 (by omega);have KL:=Lib.hid fun w=>tsmall_no s[k] w
 rw[hl] at KL;have KS:=Lib.hid signs_any;clear hR hfs h34 hd hl h36 h45 hno hlow
 ·go_enter Tryz.func63,Tryz.ntmps63
  go_wp2_with (first | (go_at_call 96;((with_reducible refine(KL.out _).mono ?_));rintro e w' ⟨rfl,rfl⟩) | (go_at_call 100;((with_reducible refine(KR.out _).mono ?_));rintro e w' ⟨rfl,rfl⟩) | (go_at_call 102;((with_reducible refine(KS.out _).mono ?_));rintro e w' ⟨rfl,rfl⟩))
  go_loopw [19] (fun i wr=>∃ j m:Nat,j≤18∧i= .int .i64 j∧signL (s.data.toList.drop k)=sgFind (sgns.drop j) (s.data.toList.drop k)∧wr=(boxS w).drewN m) (fun i _=>18 - (intOf i).toNat)
  case atStart=>exact⟨0,0,by omega,rfl,HF.out.symm,rfl⟩
  case round=>
   obtain⟨j,m,hj,rfl,hsg,rfl⟩:=hrel;have HS:=Lib.hid hsg;clear hsg;by_cases a:j<18
   ·obtain⟨x,hx⟩:∃ x,sgns[j]?=some x:=⟨_,List.getElem?_eq_getElem (by rw[sgns_len];exact a)⟩
    have c0:=boxS_at w hx;obtain⟨X,hX⟩:∃ X:ByteArray,X=⟨x.toArray⟩:=⟨_,rfl⟩;rw[←hX] at c0;have hXl:=sign_len (sgns_sign hx);have hXs:X.size=x.length:=by rw[←len_data,hX]
    rw[←hXs] at hXl;obtain⟨x1,x2⟩:=hXl;have hst:=sgFind_step hx (s.data.toList.drop k);have hxd:X.toList=x:=by rw[toList_data,hX]
    have hed:(s.extract k (k+X.size)).toList=(s.data.toList.drop k).take x.length:=by rw[toList_data,ext_data,hXs]
    have HX:=Lib.hid hx;have HXX:=Lib.hid hX;have HXs:=Lib.hid hXs;by_cases hf:k+X.size≤s.size
    ·have hf1:(k:Int)+X.size≤s.size:=by omega
     have hf2:(k:Int)≤(k:Int)+X.size:=by omega
     by_cases hm:(s.data.toList.drop k).take x.length=x
     ·have hb:((s.extract k (k+X.size)).toList==X.toList)=true:=by rw[hed,hxd,hm];simp
      have HR2:Hid (R= .ok ⟨4,(s.data.toList.drop k).take X.size,0,[],0⟩ X.size):=by
       apply Lib.hid;rw[HR.out,HS.out,hst,if_pos hm,hXs,hm,sgns_sign hx,if_pos rfl]
      have HE:Hid (X=s.extract k (k+X.size)):=by
       apply Lib.hid;rw[ext_eq,hXs,hm,hX]
      clear hx hX hXs hst hxd hed hm;go_wp2;go_quiet (fail);go_wp2;rw[HR2.out];exact bodyPost_ret (v:= .tuple #[.agg #[.int .i64 4,.string X,.int .i64 0,.slice none 0 0,.int .i64 k],.int .i64 ((k:Int)+X.size),.int .i64 0,.int .i64 0]) (by simp[results,Tryz.results63,go_sem]) rfl (postO_word (p:=k+X.size) HE.out (boxS_put w _ _ _ _ _ _) rfl)
     ·have hb:((s.extract k (k+X.size)).toList==X.toList)=false:=by rw[hed,hxd];simpa using hm
      have HS2:Hid (signL (s.data.toList.drop k)=sgFind (sgns.drop (j+1)) (s.data.toList.drop k)):=by
       apply Lib.hid;rw[HS.out,hst,if_neg hm]
      clear hx hX hXs hst hxd hed hm;go_wp2;go_quiet (fail);go_wp2
      go_roundw
      case rel=>exact⟨j+1,_,by omega,by go_num,HS2.out,rfl⟩
      case measure=>simp[intOf];omega
    ·have hm:¬ (s.data.toList.drop k).take x.length=x:=by
      intro e;have:=congrArg List.length e;rw[List.length_take,List.length_drop,len_data] at this;omega
     have hf1:decide ((k:Int)+X.size≤s.size)=false:=by simp;omega
     have HS2:Hid (signL (s.data.toList.drop k)=sgFind (sgns.drop (j+1)) (s.data.toList.drop k)):=by
      apply Lib.hid;rw[HS.out,hst,if_neg hm]
     clear hx hX hXs hst hxd hed hm;go_wp2;go_quiet (fail);go_wp2
     go_roundw
     case rel=>exact⟨j+1,_,by omega,by go_num,HS2.out,rfl⟩
     case measure=>simp[intOf];omega
   ·have HR2:Hid (R= .bad 0 1):=by
     apply Lib.hid;obtain rfl:j=18:=by omega
     have e:signL (s.data.toList.drop k)=0:=HS.out;rw[HR.out,e,List.take_zero,sign_nil,if_neg (by decide)]
    go_wp2;rw[HR2.out];exact bodyPost_ret (v:= .tuple #[.agg #[.int .i64 0,.string ⟨#[]⟩,.int .i64 0,.slice none 0 0,.int .i64 0],.int .i64 0,.int .i64 k,.int .i64 1]) (by simp[results,Tryz.results63,go_sem]) rfl (postO_bad (boxS_put w _ _ _ _ _ _) 1)
theorem one_any (s:ByteArray) (k:Nat) (hk:k<s.size) (hs:s.size≤4000) (w:World):
  Calls Tryz.prog 63 #[.string s,.int .i64 k] w (PostO w k (tokR (s.data.toList.drop k))):=by
 by_cases h34:s[k]=34
 ·exact one_text s k hk hs h34 w
 ·by_cases hd:isDig s[k]=true
  ·exact one_num s k hk hs hd w
  ·by_cases hl:isLow s[k]=true
   ·exact one_word s k hk hs hl w
   ·by_cases h36:s[k]=36
    ·exact one_var s k hk hs h36 w
    ·by_cases h45:s[k]=45
     ·by_cases hx:lowHead (s.data.toList.drop (k+1))=true
      ·exact one_flag s k hk hs h45 hx w
      ·exact one_dash s k hk hs h45 (Bool.eq_false_iff.2 hx) w
     ·exact one_sign s k hk hs h34 (Bool.eq_false_iff.2 hd) (Bool.eq_false_iff.2 hl) h36 h45 w
theorem behind_bl (s:ByteArray) (k:Nat) (hk:k<s.size) (c:isBl s[k]=true):behind s.data.toList k=behind s.data.toList (k+1):=by
 unfold behind;rw[gap_at_bl s k hk c];omega
theorem behind_hash (s:ByteArray) (k:Nat) (hk:k<s.size) (c:s[k]=35):behind s.data.toList k=behind s.data.toList (k+runL notNl (s.data.toList.drop k))∧0<runL notNl (s.data.toList.drop k):=by
 obtain⟨a,b⟩:=gap_at_hash s k hk c;exact⟨by unfold behind;rw[a];omega,b⟩
theorem behind_no (s:ByteArray) (k:Nat) (hk:k<s.size) (c:¬ isBl s[k]=true) (d:s[k]≠35):behind s.data.toList k=k:=by
 unfold behind;rw[gap_at_no s k hk c d];rfl
theorem behind_end (s:ByteArray) (k:Nat) (hk:¬ k<s.size):behind s.data.toList k=k:=by
 unfold behind;rw[gap_at_end s k hk];rfl
def LoopO (s:ByteArray) (w0:World) (R:Option (List Tok) × Nat × Int) (v a:Value) (w:World):Prop:=
 ∃ (k:Nat) (l:List Tv),k≤s.size∧a= .int .i64 k∧goT s.data.toList (behind s.data.toList k) (l.map (·.1))=R∧Tks w0.heap.size w0 w v l∧l.length≤k
def OBad (w0:World) (p:Nat) (x:Int) (e:Ending) (w':World):Prop:=
 ∃ (t:Tok) (A:Option Addr) (c:Nat),e= .returned (.tuple #[.agg #[.int .i64 t.kind,.string ⟨t.word.toArray⟩,.int .i64 t.n,.slice A t.parts.length c,.int .i64 t.pl],.int .i64 0,.int .i64 p,.int .i64 x])∧Below w0.heap.size w0 w'
def OOk (w0:World) (p:Nat) (t:Tok) (e:Ending) (w':World):Prop:=
 ∃ (A:Option Addr) (c:Nat),e= .returned (.tuple #[.agg #[.int .i64 t.kind,.string ⟨t.word.toArray⟩,.int .i64 t.n,.slice A t.parts.length c,.int .i64 t.pl],.int .i64 p,.int .i64 0,.int .i64 0])∧OwnP w0.heap.size w' (.slice A t.parts.length c) t.parts∧Below w0.heap.size w0 w'
theorem one_b (s:ByteArray) (k q:Nat) (x:Int) (hk:k<s.size) (hs:s.size≤4000) (h:tokR (s.data.toList.drop k)= .bad q x) (w:World):Calls Tryz.prog 63 #[.string s,.int .i64 k] w (OBad w (k+q) x):=by
 have:=one_any s k hk hs w;rw[h] at this
 exact this.mono fun e w' ⟨t,v,he,ho,hb,_⟩=>by
  obtain⟨A,c,rfl,_⟩:=rd_of_own (ps:=t.parts) ho;exact⟨t,A,c,he,hb⟩
theorem one_o (s:ByteArray) (k q:Nat) (t:Tok) (hk:k<s.size) (hs:s.size≤4000) (h:tokR (s.data.toList.drop k)= .ok t q) (w:World):Calls Tryz.prog 63 #[.string s,.int .i64 k] w (OOk w (k+q) (withPl t k)):=by
 have:=one_any s k hk hs w;rw[h] at this
 exact this.mono fun e w' ⟨t',v,he,ho,hb,ht⟩=>by
  obtain rfl:=ht t q rfl;obtain⟨A,c,rfl,_⟩:=rd_of_own (ps:=(withPl t k).parts) ho;exact⟨A,c,he,ho,hb⟩
theorem rscan_any (s:ByteArray) (hs:s.size≤4000) (w:World):Calls Tryz.prog 31 #[.string s] w (PostT w (scan s.data.toList)):=by
 by_cases h2000:2000<s.size
 ·have hR:scan s.data.toList=(none,2000,2):=by unfold scan;rw[if_pos (by rw[len_data];exact h2000)]
  rw[hR];clear hR;go_enter Tryz.func31,Tryz.ntmps31;go_wp2
  go_ret3
  exact⟨_,[],rfl,Tks.nil w,rfl⟩
 ·obtain⟨R,hR⟩:∃ R,R=goT s.data.toList (behind s.data.toList 0) []:=⟨_,rfl⟩
  have hsc:scan s.data.toList=R:=by unfold scan;rw[if_neg (by rw[len_data];exact h2000),hR]
  rw[hsc];have HR:=Lib.hid hR.symm;obtain⟨i0,hi0,hz0,hz1,hz2⟩:=info_parts infoT;clear hR hsc;go_enter Tryz.func31,Tryz.ntmps31;go_wp2
  go_loopw [5,6] (fun v a wr=>LoopO s w R v a wr) (fun _ a _=>s.size - (intOf a).toNat)
  case atStart=>exact⟨0,[],by omega,rfl,HR.out,Tks.nil w,by simp⟩
  case round=>
   obtain⟨k,l,hk,rfl,hg,hT,hl⟩:=hrel;have HGk:=Lib.hid hg;have HT:=Lib.hid hT;clear hg hT;by_cases a:k<s.size
   ·by_cases cb:isBl s[k]=true
    ·have HX:Hid (goT s.data.toList (behind s.data.toList (k+1)) (l.map (·.1))=R):=Lib.hid (by rw[←HGk.out,behind_bl s k a cb])
     have hb:s[k]=32∨(s[k]≠32∧s[k]=9)∨(s[k]≠32∧s[k]≠9∧s[k]=10):=by
      have hx:∀ c:UInt8,isBl c=true→c=32∨(c≠32∧c=9)∨(c≠32∧c≠9∧c=10):=all256 _ (by decide+kernel);exact hx _ cb
     clear cb
     rcases hb with hb | ⟨hb1,hb⟩ | ⟨hb1,hb2,hb⟩
     ·have b1:((s[k].toNat:Int)==32)=true:=byte_eq (n:=32) hb (by omega)
      clear hb;go_wp2
      go_roundw
      case rel=>exact⟨k+1,l,by omega,by go_num,HX.out,HT.out,by omega⟩
      case measure=>simp[intOf];omega
     ·have b1:((s[k].toNat:Int)==32)=false:=byte_ne (n:=32) hb1 (by omega)
      have b2:((s[k].toNat:Int)==9)=true:=byte_eq (n:=9) hb (by omega);clear hb hb1;go_wp2
      go_roundw
      case rel=>exact⟨k+1,l,by omega,by go_num,HX.out,HT.out,by omega⟩
      case measure=>simp[intOf];omega
     ·have b1:((s[k].toNat:Int)==32)=false:=byte_ne (n:=32) hb1 (by omega)
      have b2:((s[k].toNat:Int)==9)=false:=byte_ne (n:=9) hb2 (by omega);have b3:((s[k].toNat:Int)==10)=true:=byte_eq (n:=10) hb (by omega);clear hb hb1 hb2;go_wp2
      go_roundw
      case rel=>exact⟨k+1,l,by omega,by go_num,HX.out,HT.out,by omega⟩
      case measure=>simp[intOf];omega
    ·have hb:s[k]≠32∧s[k]≠9∧s[k]≠10:=by
      have hx:∀ c:UInt8,¬ isBl c=true→c≠32∧c≠9∧c≠10:=all256 _ (by decide+kernel);exact hx _ cb
     obtain⟨hb1,hb2,hb3⟩:=hb;have b1:((s[k].toNat:Int)==32)=false:=byte_ne (n:=32) hb1 (by omega);have b2:((s[k].toNat:Int)==9)=false:=byte_ne (n:=9) hb2 (by omega);have b3:((s[k].toNat:Int)==10)=false:=byte_ne (n:=10) hb3 (by omega);clear hb1 hb2 hb3;by_cases ch:s[k]=35
     ·obtain⟨h1,h2⟩:=behind_hash s k a ch
      have HX:Hid (goT s.data.toList (behind s.data.toList (k+runL notNl (s.data.toList.drop k))) (l.map (·.1))=R):=Lib.hid (by rw[←HGk.out,h1]);have hrun:=runL_le notNl (s.data.toList.drop k);rw[List.length_drop,len_data] at hrun;obtain⟨N,hN⟩:∃ N,N=k+runL notNl (s.data.toList.drop k):=⟨_,rfl⟩;rw[←hN] at HX;have n1:k<N:=by omega
      have n2:N≤s.size:=by omega
      have b35:((s[k].toNat:Int)==35)=true:=byte_eq (n:=35) ch (by omega);have HN:=Lib.hid hN;clear hN hrun h1 h2 ch cb;go_wp2
      go_loop [6] (fun a=>∃ j:Nat,k≤j∧j≤s.size∧a= .int .i64 j∧N=j+runL notNl (s.data.toList.drop j)) (fun a=>s.size - (intOf a).toNat)
      case atStart=>exact⟨k,by omega,by omega,rfl,HN.out⟩
      case round=>
       obtain⟨j,hkj,hj,rfl,hn⟩:=hrel;have HJ:=Lib.hid hn;clear hn;by_cases e:j<s.size
       ·have hr:=runL_at notNl s j e
        by_cases c:notNl s[j]=true
        ·have HY:Hid (N=(j+1)+runL notNl (s.data.toList.drop (j+1))):=by apply Lib.hid;rw[HJ.out,hr,if_pos c];omega
         have c1:((s[j].toNat:Int) != 10)=true:=by unfold notNl at c;simpa using c
         clear hr c;go_wp2
         go_round
         case rel=>exact⟨j+1,by omega,by omega,by go_num,HY.out⟩
         case measure=>simp[intOf];omega
        ·have hjN:j=N:=by rw[HJ.out,hr,if_neg c];omega
         have c1:((s[j].toNat:Int) != 10)=false:=by unfold notNl at c;simpa using c
         clear hr c;subst hjN;go_wp2
         go_roundw
         case rel=>exact⟨_,l,n2,rfl,HX.out,HT.out,by omega⟩
         case measure=>simp[intOf];omega
       ·have hjN:j=N:=by rw[HJ.out,runL_past _ _ _ e];omega
        subst hjN;go_wp2
        go_roundw
        case rel=>exact⟨_,l,n2,rfl,HX.out,HT.out,by omega⟩
        case measure=>simp[intOf];omega
     ·have b35:((s[k].toNat:Int)==35)=false:=byte_ne (n:=35) ch (by omega)
      have hbe:=behind_no s k a cb ch;have hgo:=HGk.out;rw[hbe] at hgo;clear ch cb hbe
      rcases hp:tokR (s.data.toList.drop k) with ⟨q,x⟩ | ⟨t,q⟩
      ·have HX:Hid (R=(none,k+q,x)):=Lib.hid (by rw[←hgo,goT_bad _ (by rw[len_data];exact a) hp])
       have K:=Lib.hid (one_b s k q x a hs hp wr)
       have hx:(x != 0)=true:=by
        have:=(tokR_bad hp).2
        rcases this with h | h <;> (subst h;rfl)
       obtain⟨p,hpq⟩:∃ p,p=k+q:=⟨_,rfl⟩;rw[←hpq] at K HX;clear hp hpq hgo;go_wp2_with (go_at_call 63;((with_reducible refine(K.out).mono ?_));rintro e w1 ⟨t,A,c,rfl,hb⟩;have HB:=Lib.hid hb;clear hb)
       go_ret3
       rw[HX.out];exact⟨_,[],rfl,((HT.out.beyond HB.out).alloc _).none_,rfl⟩
      ·obtain⟨q0,q1,_⟩:=tokR_ok hp
       rw[List.length_drop,len_data] at q1;have HX:Hid (goT s.data.toList (behind s.data.toList (k+q)) (l.map (·.1)++[withPl t k])=R):=Lib.hid (by rw[←hgo,goT_ok _ (by rw[len_data];exact a) hp]);have K:=Lib.hid (one_o s k q t a hs hp wr);generalize withPl t k=t at K HX;obtain⟨p,hpq⟩:∃ p,p=k+q:=⟨_,rfl⟩;rw[←hpq] at K HX;have n3:k<p:=by omega
       have n2:p≤s.size:=by omega
       clear hp hpq q0 q1 hgo;go_wp2_with (first | (go_at_call 63;((with_reducible refine(K.out).mono ?_));rintro e w1 ⟨A,c,rfl,ho,hb⟩;have HB:=Lib.hid hb;have HO:=Lib.hid ho;clear hb ho) | (at_builtin;refine wpList_append_own _ rfl (.tmp 64) (.tmp 66) 44 rfl w.heap.size 48 i0 (.agg #[.int .i64 0,.string ⟨#[]⟩,.int .i64 0,.slice none 0 0,.int .i64 0]) 5 64 Tryz.underlying44 hi0 hz0 hz1 hz2 rfl (by decide) _ _ _ rfl (((HT.out.beyond HB.out).alloc _).alloc _).row ⟨w1.heap.size+1,0,none⟩ 1 1 [.int .i64 t.kind,.string ⟨t.word.toArray⟩,.int .i64 t.n,.slice A t.parts.length c,.int .i64 t.pl] rfl rfl (fun j u hu=>new_cellsT w1 (.cells #[.int .i64 t.kind,.string ⟨t.word.toArray⟩,.int .i64 t.n,.slice A t.parts.length c,.int .i64 t.pl] 48) 48 #[.int .i64 t.kind,.string ⟨t.word.toArray⟩,.int .i64 t.n,.slice A t.parts.length c,.int .i64 t.pl] j u hu) (five_one _ _ _ _ _ _ _) (by unfold maxLen;omega) (by omega) (((HT.out.beyond HB.out).alloc _).alloc _).size ?_;intro v2 w3 hown' hgrow _))
       go_roundw
       case rel=>
        refine⟨p,l++[(t,.slice A t.parts.length c)],n2,rfl,by rw[List.map_append];exact HX.out,(((HT.out.beyond HB.out).alloc _).alloc _).token (g:=t) (u:= .slice A t.parts.length c) ?_ hown' hgrow,by rw[List.length_append];simp;omega⟩;exact(((HO.out.mono HT.out.size).alloc _).alloc _)
       case measure=>simp[intOf];omega
   ·have HX:Hid (R=(some (l.map (·.1)),0,0)):=Lib.hid (by rw[←HGk.out,behind_end s k a,goT_end _ (by rw[len_data];exact a)])
    go_wp2
    go_ret3
    rw[HX.out];exact⟨_,l,rfl,HT.out,rfl⟩
theorem errB_ok {t:Tok} (h:okT t=true):errB t=0∧textB t=⟨(textT t).toArray⟩:=by unfold errB textB;rw[h];exact⟨rfl,rfl⟩
theorem ret_sj {a b:ByteArray} {x y:Int} (h:b=a) (g:y=x):Ending.returned (.tuple #[.string a,.int .i64 x])= .returned (.tuple #[.string b,.int .i64 y]):=by rw[h,g]
theorem errB_no {t:Tok} (h:okT t=false):errB t=5:=by unfold errB;rw[h];rfl
theorem join_any (A:Option Addr) (n c:Nat) (ts:List Tok) (w:World) (h:RdT w.heap.size w A n ts) (hn:n≤1000000) (hf:∀ t∈ts,FitT t) (hG:Given w):
  Calls Tryz.prog 16 #[.slice A n c] w fun e w'=>e= .returned (.tuple #[.string (joinB ts),.int .i64 (joinE ts)])∧Below w.heap.size w w':=by
 have HR:=Lib.hid h;have HG:=Lib.hid hG;have HF:=Lib.hid hf;have HN:=Lib.hid h.1;obtain⟨j0,hj0,hy0,hy1,hy2⟩:=info_parts info5;clear h hG hf;go_enter Tryz.func16,Tryz.ntmps16;go_wp2
 go_loopw [4,11] (fun v i wr=>∃ (k:Nat) (O:Bs),k≤n∧i= .int .i64 k∧JI ts k O∧RowO w.heap.size w wr v O) (fun _ i _=>n - (intOf i).toNat)
 case atStart=>exact⟨0,[],by omega,rfl,JI.start ts,⟨World.ownsRow_nil _ _ _ _,World.ownsRow_nil _ _ _ _,Below.refl _ _,Nat.le_refl _⟩⟩
 case round=>
  obtain⟨k,O,hk,rfl,hJ,hO⟩:=hrel;have HJ:=Lib.hid hJ;have HO:=Lib.hid hO;have hOl:=hJ.len;clear hJ hO;by_cases a:k<n
  ·obtain⟨t,ht⟩:∃ t,ts[k]?=some t:=⟨_,List.getElem?_eq_getElem (by have:=HN.out;omega)⟩
   obtain⟨ad,A',c',rfl,⟨c0,c1,c2,c3,c4⟩,hrd⟩:=(HR.out.keep HO.out.below).at_ ht
   have hft:=HF.out t (List.mem_of_getElem? ht);have hrd0:Rd w.heap.size wr A' t.parts.length t.parts:=hrd
   have KT:Hid (∀ w',Below wr.heap.size wr w'→Calls Tryz.prog 42 #[tokA t A' c'] w' fun e w2=>e= .returned (.tuple #[.string (textB t),.int .i64 (errB t)])∧Below w'.heap.size w' w2):=Lib.hid fun w' hb=>
    text_any t A' c' w' ((hrd0.up HO.out.size).onto hb) hft (HG.out.below (HO.out.below.trans (hb.mono HO.out.size)))
   unfold tokA at KT;have HT:=Lib.hid ht;have HFT:=Lib.hid hft;obtain⟨W,hW⟩:∃ W:ByteArray,W=⟨t.word.toArray⟩:=⟨_,rfl⟩;rw[←hW] at c1 KT;obtain⟨m,hm⟩:∃ m,m=t.parts.length:=⟨_,rfl⟩;rw[←hm] at c3 KT;clear hrd hrd0 ht hft hW hm;by_cases ho:okT t=true
   ·obtain⟨e1,e2⟩:=errB_ok ho
    rw[e1,e2] at KT;obtain⟨T,hT⟩:∃ T:ByteArray,T=⟨(textT t).toArray⟩:=⟨_,rfl⟩;rw[←hT] at KT;have hTd:T.data.toList=textT t:=by rw[hT]
    have hTs:T.size≤100001:=by rw[←len_data,hTd];exact textT_len HFT.out
    have HTd:=Lib.hid hTd;have HOk:=Lib.hid ho;clear e1 e2 hT hTd ho;by_cases hl:2000<O.length
    ·rcases text_form HO.out.text with ⟨rfl,e0⟩ | ⟨g,cap,rfl,hcap⟩
     ·rw[e0] at hl;exact absurd hl (by decide)
     ·have HS:Hid (JI ts (k+1) O):=Lib.hid (HJ.out.skip HT.out HOk.out hl)
      obtain⟨q,hq⟩:∃ q,q=O.length:=⟨_,rfl⟩;have HQ:=Lib.hid hq;rw[←hq] at hl ⊢;have hl2:2000<(q:Int):=by omega
      rw[←hq] at HO hcap hOl;clear hq;go_wp2_with (go_at_call 42;((with_reducible refine(KT.out _ ((Below.refl _ _).alloc (Nat.le_refl _) _)).mono ?_));rintro e w1 ⟨rfl,hb⟩;have HB:=Lib.hid (((Below.refl wr.heap.size wr).alloc (Nat.le_refl _) _).trans (hb.mono (by simp)));clear hb)
      go_roundw
      case rel=>exact⟨k+1,O,by omega,by go_num,HS.out,by have:=HO.out.beyond HB.out;rw[HQ.out] at this ⊢;exact this⟩
      case measure=>simp[intOf];omega
    ·by_cases hk0:k=0
     ·have HS:Hid (JI ts (k+1) (O++textT t)):=Lib.hid (HJ.out.first hk0 HT.out HOk.out HFT.out hl)
      have hk1:¬ 0<k:=by omega
      have hk2:¬ (0:Int)<k:=by omega
      clear hk0;have hl2:¬ (2000:Int)<O.length:=by omega
      rcases text_form HO.out.text with ⟨rfl,e0⟩ | ⟨g,cap,rfl,hcap⟩
      ·clear e0
       go_wp2_with (first | (go_at_call 42;((with_reducible refine(KT.out _ ((Below.refl _ _).alloc (Nat.le_refl _) _)).mono ?_));rintro e w1 ⟨rfl,hb⟩;have HB:=Lib.hid (((Below.refl wr.heap.size wr).alloc (Nat.le_refl _) _).trans (hb.mono (by simp)));clear hb;have S1:=Lib.hid (HO.out.beyond HB.out)) | (at_builtin;refine Lib.wpList_append_own_string _ rfl (.tmp 32) (.tmp 33) 81 9 rfl w.heap.size 5 j0 Tryz.underlying81 Tryz.underlying9 hj0 hy0 hy1 hy2 _ _ _ rfl S1.out.text T rfl (by unfold maxLen;(try simp);omega) (by(try simp);omega) S1.out.size ?_;intro v3 w3 h3 g3 _;have S3:=Lib.hid (RowO.str (textT t) HTd.out S1.out h3 g3);clear h3 g3))
       go_roundw
       case rel=>exact⟨k+1,_,by omega,by go_num,HS.out,S3.out⟩
       case measure=>simp[intOf];omega
      ·go_wp2_with (first | (go_at_call 42;((with_reducible refine(KT.out _ ((Below.refl _ _).alloc (Nat.le_refl _) _)).mono ?_));rintro e w1 ⟨rfl,hb⟩;have HB:=Lib.hid (((Below.refl wr.heap.size wr).alloc (Nat.le_refl _) _).trans (hb.mono (by simp)));clear hb;have S1:=Lib.hid (HO.out.beyond HB.out)) | (at_builtin;refine Lib.wpList_append_own_string _ rfl (.tmp 32) (.tmp 33) 81 9 rfl w.heap.size 5 j0 Tryz.underlying81 Tryz.underlying9 hj0 hy0 hy1 hy2 _ _ _ rfl S1.out.text T rfl (by unfold maxLen;(try simp);omega) (by(try simp);omega) S1.out.size ?_;intro v3 w3 h3 g3 _;have S3:=Lib.hid (RowO.str (textT t) HTd.out S1.out h3 g3);clear h3 g3))
       go_roundw
       case rel=>exact⟨k+1,_,by omega,by go_num,HS.out,S3.out⟩
       case measure=>simp[intOf];omega
     ·have HS:Hid (JI ts (k+1) (O++[32]++textT t)):=Lib.hid (HJ.out.more (by omega) HT.out HOk.out HFT.out hl)
      have hl2:¬ (2000:Int)<O.length:=by omega
      have hk1:0<k:=by omega
      have hk2:(0:Int)<k:=by omega
      rcases text_form HO.out.text with ⟨rfl,e0⟩ | ⟨g,cap,rfl,hcap⟩
      ·clear e0
       go_wp2_with (first | (go_at_call 42;((with_reducible refine(KT.out _ ((Below.refl _ _).alloc (Nat.le_refl _) _)).mono ?_));rintro e w1 ⟨rfl,hb⟩;have HB:=Lib.hid (((Below.refl wr.heap.size wr).alloc (Nat.le_refl _) _).trans (hb.mono (by simp)));clear hb;have S1:=Lib.hid (HO.out.beyond HB.out)) | (at_builtin;refine wpList_append_own _ rfl (.tmp 29) (.tmp 30) 81 rfl w.heap.size 5 j0 (.int .u8 0) 1 1 Tryz.underlying81 hj0 hy0 hy1 hy2 rfl (by decide) _ _ _ rfl (S1.out.alloc _).text ⟨w1.heap.size,0,none⟩ 1 1 [.int .u8 32] rfl rfl (fun j u hu=>new_cells w1 5 #[.int .u8 32] j u hu) (one_one _) (by unfold maxLen;omega) (by omega) (S1.out.alloc _).size ?_;intro v2 w2 h2 g2 _;have S2:=Lib.hid ((S1.out.alloc _).bytes [32] h2 g2);clear h2 g2) | (at_builtin;refine Lib.wpList_append_own_string _ rfl (.tmp 32) (.tmp 33) 81 9 rfl w.heap.size 5 j0 Tryz.underlying81 Tryz.underlying9 hj0 hy0 hy1 hy2 _ _ _ rfl S2.out.text T rfl (by unfold maxLen;(try simp);omega) (by(try simp);omega) S2.out.size ?_;intro v3 w3 h3 g3 _;have S3:=Lib.hid (RowO.str (textT t) HTd.out S2.out h3 g3);clear h3 g3))
       go_roundw
       case rel=>exact⟨k+1,_,by omega,by go_num,HS.out,S3.out⟩
       case measure=>simp[intOf];omega
      ·go_wp2_with (first | (go_at_call 42;((with_reducible refine(KT.out _ ((Below.refl _ _).alloc (Nat.le_refl _) _)).mono ?_));rintro e w1 ⟨rfl,hb⟩;have HB:=Lib.hid (((Below.refl wr.heap.size wr).alloc (Nat.le_refl _) _).trans (hb.mono (by simp)));clear hb;have S1:=Lib.hid (HO.out.beyond HB.out)) | (at_builtin;refine wpList_append_own _ rfl (.tmp 29) (.tmp 30) 81 rfl w.heap.size 5 j0 (.int .u8 0) 1 1 Tryz.underlying81 hj0 hy0 hy1 hy2 rfl (by decide) _ _ _ rfl (S1.out.alloc _).text ⟨w1.heap.size,0,none⟩ 1 1 [.int .u8 32] rfl rfl (fun j u hu=>new_cells w1 5 #[.int .u8 32] j u hu) (one_one _) (by unfold maxLen;omega) (by omega) (S1.out.alloc _).size ?_;intro v2 w2 h2 g2 _;have S2:=Lib.hid ((S1.out.alloc _).bytes [32] h2 g2);clear h2 g2) | (at_builtin;refine Lib.wpList_append_own_string _ rfl (.tmp 32) (.tmp 33) 81 9 rfl w.heap.size 5 j0 Tryz.underlying81 Tryz.underlying9 hj0 hy0 hy1 hy2 _ _ _ rfl S2.out.text T rfl (by unfold maxLen;(try simp);omega) (by(try simp);omega) S2.out.size ?_;intro v3 w3 h3 g3 _;have S3:=Lib.hid (RowO.str (textT t) HTd.out S2.out h3 g3);clear h3 g3))
       go_roundw
       case rel=>exact⟨k+1,_,by omega,by go_num,HS.out,S3.out⟩
       case measure=>simp[intOf];omega
   ·have ho:=Bool.eq_false_iff.2 ho
    obtain⟨e1,e2⟩:=JI.bad HT.out ho;rw[errB_no ho] at KT;have H1:=Lib.hid e1;have H2:=Lib.hid e2;clear e1 e2 ho;go_wp2_with (go_at_call 42;((with_reducible refine(KT.out _ ((Below.refl _ _).alloc (Nat.le_refl _) _)).mono ?_));rintro e w1 ⟨rfl,hb⟩;have HB:=Lib.hid (((Below.refl wr.heap.size wr).alloc (Nat.le_refl _) _).trans (hb.mono (by simp)));clear hb)
    go_ret2
    exact⟨ret_sj H2.out H1.out,(HO.out.beyond HB.out).below⟩
  ·have hkn:¬ k<ts.length:=by have:=HN.out;omega
   by_cases hl:2000<O.length
   ·obtain⟨e1,e2⟩:=HJ.out.long hkn hl
    have H1:=Lib.hid e1;have H2:=Lib.hid e2;have hl2:(2000:Int)<O.length:=by omega
    rcases text_form HO.out.text with ⟨rfl,e0⟩ | ⟨g,cap,rfl,hcap⟩
    ·rw[e0] at hl;exact absurd hl (by decide)
    ·clear e1 e2 hkn
     go_wp2
     go_ret2
     exact⟨ret_sj H2.out H1.out,HO.out.below⟩
   ·obtain⟨e1,e2⟩:=HJ.out.done hkn hl
    have H1:=Lib.hid e1;have H2:=Lib.hid e2;have hl2:¬ (2000:Int)<O.length:=by omega
    rcases conv_any HO.out.text with ⟨rfl,e0⟩ | ⟨g,cap,rfl,hcv⟩
    ·have HE:=Lib.hid e0
     have hcn:(convert 81 9 (.slice none 0 0)).run Tryz.prog wr= .ok (.string ⟨#[]⟩) wr:=run_convert_bytes_nil _ 81 5 Tryz.underlying81 Tryz.underlying5 0 0 9 Tryz.underlying9;clear e1 e2 hkn e0;go_wp2
     go_ret2
     exact⟨ret_sj (H2.out.trans (by rw[HE.out])) H1.out,HO.out.below⟩
    ·obtain⟨OB,hOB⟩:∃ OB:ByteArray,OB=⟨O.toArray⟩:=⟨_,rfl⟩
     rw[←hOB] at hcv;have HOB:=Lib.hid hOB;clear e1 e2 hkn hOB;go_wp2
     go_ret2
     exact⟨ret_sj (H2.out.trans HOB.out.symm) H1.out,HO.out.below⟩
end Go.Proofs.YtdobinjbejagcaaGreatDoor
