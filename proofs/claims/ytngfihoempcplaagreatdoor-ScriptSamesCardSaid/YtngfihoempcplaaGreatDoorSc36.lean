import Derived.Test.YtngfihoempcplaaGreatDoorSc27
import Derived.Test.YtngfihoempcplaaGreatDoorSk09
import Derived.Test.YtngfihoempcplaaGreatDoorSk16
import Derived.Test.YtngfihoempcplaaGreatDoorEx30
import Derived.Test.YtngfihoempcplaaGreatDoorTkQ
namespace Go.Proofs.YtngfihoempcplaaGreatDoor
open Go Go.RowKit
set_option maxRecDepth 100000
set_option maxHeartbeats 8000000
theorem scmd_0 (b:Nat) (w:World) (A:Option Addr) (n c:Nat) (l:List Tok) (d k:Nat) (h:RdS b w A n c l k 0) (t:Tok) (KN:NextC b A n c l k 0 t) (KF:KowC ⟨t.word.toArray⟩ 0) (KR:RefC b A n c l 1 k 0 1):
  Calls Tryz.prog 32 #[.pointer (some ⟨b,0,none⟩),.int .i64 d] w (CmdS b w A n c l (.bad k false)):=by
 have H:=Lib.hid (Cx.start h);have hlt:=h.lt;unfold NextC at KN;obtain⟨T,hT⟩:∃ T:ByteArray,T=⟨t.word.toArray⟩:=⟨_,rfl⟩;rw[←hT] at KN KF;generalize t.kind=kd at KN;generalize t.pl=pl at KN ⊢;clear h hT;unfold CmdS;go_enter Tryz.func32,Tryz.ntmps32;go_wp2_with (first | (go_at_call 31;go_must (((with_reducible refine(KN.out _ (H.out.rd.box _)).mono ?_));rintro e w1 ⟨A1,c1,rfl,hb1,hr1⟩;have HA:=Lib.hid (((H.out.alloc 41 zeroC (by simp)).below hb1).alloc 53 [.int .i64 kd,.string T,.int .i64 t.n,.slice A1 t.parts.length c1,.int .i64 pl] (by simp));obtain⟨q0,q1,q2,q3⟩:=HA.out.two;clear hb1 hr1)));obtain⟨W0,HW0,hz0,hW0⟩:∃ W0,Hid (Cx b w W0 A n c l k 0 [(w1.heap.size,[.int .i64 kd,.string T,.int .i64 t.n,.slice A1 t.parts.length c1,.int .i64 pl]),(w.heap.size,zeroC)])∧W0.heap.size=w1.heap.size+1∧W0=w1.alloc (.cells #[.int .i64 kd,.string T,.int .i64 t.n,.slice A1 t.parts.length c1,.int .i64 pl] 53):=⟨_,HA,by simp,rfl⟩;rw[←hW0];clear hW0 HA q3;obtain⟨_,d1,_,_,d4⟩:=(HW0.out.drew.box 0 w1.heap.size _ rfl).all5;obtain⟨_,a1,_,_,a4⟩:=((HW0.out.alloc 41 zeroC (by simp)).drew.box 1 w1.heap.size _ rfl).all5;obtain⟨_,e1,_,_,e4⟩:=((HW0.out.alloc 41 [.int .i64 0,.string ⟨#[]⟩,.int .i64 0,.slice none 0 0,.int .i64 0,.int .i64 0,.string ⟨#[]⟩,.string ⟨#[]⟩,.slice none 0 0,.slice none 0 0,.slice none 0 0,.slice none 0 0,.int .i64 pl] (by simp)).drew.box 1 w1.heap.size _ rfl).all5
 go_region_held3 (fun W'=>W'.cell? ⟨w1.heap.size,1,none⟩=some (.string T)∧W'.cell? ⟨w1.heap.size,4,none⟩=some (.int .i64 pl))
  (first | (with_reducible exact⟨d1,d4⟩) | (with_reducible exact⟨a1,a4⟩) | (with_reducible exact⟨e1,e4⟩))
  (first
   | (go_at_call 54;((with_reducible refine(KF.out _).mono ?_));rintro e w2 ⟨rfl,rfl⟩))
 all_goals obtain⟨W,HW,hW⟩:∃ W,Hid (Cx b w W A n c l k 0 [(w1.heap.size+1,[.int .i64 0,.string ⟨#[]⟩,.int .i64 0,.slice none 0 0,.int .i64 0,.int .i64 0,.string ⟨#[]⟩,.string ⟨#[]⟩,.slice none 0 0,.slice none 0 0,.slice none 0 0,.slice none 0 0,.int .i64 pl]),(w1.heap.size,[.int .i64 kd,.string T,.int .i64 t.n,.slice A1 t.parts.length c1,.int .i64 pl]),(w.heap.size,zeroC)])∧W=(W0.alloc (.cells #[.int .i64 0,.string ⟨#[]⟩,.int .i64 0,.slice none 0 0,.int .i64 0,.int .i64 0,.string ⟨#[]⟩,.string ⟨#[]⟩,.slice none 0 0,.slice none 0 0,.slice none 0 0,.slice none 0 0,.int .i64 pl] 41)).drew:=⟨_,Lib.hid (by rw[←hz0];exact(HW0.out.alloc 41 [.int .i64 0,.string ⟨#[]⟩,.int .i64 0,.slice none 0 0,.int .i64 0,.int .i64 0,.string ⟨#[]⟩,.string ⟨#[]⟩,.slice none 0 0,.slice none 0 0,.slice none 0 0,.slice none 0 0,.int .i64 pl] (by simp)).drew),rfl⟩
 all_goals rw[←hW]
 all_goals clear hW HW0 hz0
 all_goals obtain⟨q,hq⟩:∃ q,q=w1.heap.size+1:=⟨_,rfl⟩
 all_goals rw[←hq] at HW ⊢
 all_goals clear hq
 all_goals obtain⟨q0,q1,q2,q3,q4⟩:=HW.out.three
 all_goals have p0:=(HW.out.box 0 q _ rfl).at_ 0 _ rfl
 all_goals go_wp2_with (first | (go_at_call 17;go_must (((with_reducible refine(KR.out _ HW.out.rd).mono ?_));rintro e w4 ⟨rfl,hs4⟩;have HR:=Lib.hid (HW.out.call hs4);obtain⟨q0,q1,q2,q3,q4⟩:=HR.out.three;obtain⟨g0,g1,g2,g3,g4,g5,g6,g7,g8,g9,g10,g11,g12⟩:=(HR.out.box 2 w.heap.size zeroC rfl).all13;obtain⟨j0,j1,j2,j3,j4,j5,j6,j7,j8,j9',j10,j11,j12⟩:=(HR.out.box 2 w.heap.size zeroC rfl).fre13;clear hs4)))
 all_goals have HL:=HR.out.put13 2 w.heap.size _ _ _ _ _ _ _ _ _ _ _ _ _ rfl (.int .i64 0) (.string ⟨#[]⟩) (.int .i64 0) (.slice none 0 0) (.int .i64 0) (.int .i64 0) (.string ⟨#[]⟩) (.string ⟨#[]⟩) (.slice none 0 0) (.slice none 0 0) (.slice none 0 0) (.slice none 0 0) (.int .i64 0)
 all_goals obtain⟨r0,r1,r2,r3,r4,r5,r6,r7,r8,r9,r10,r11,r12⟩:=(HL.box 2 w.heap.size _ rfl).all13
 all_goals exact bodyPost_ret (v:= .agg #[.int .i64 0,.string ⟨#[]⟩,.int .i64 0,.slice none 0 0,.int .i64 0,.int .i64 0,.string ⟨#[]⟩,.string ⟨#[]⟩,.slice none 0 0,.slice none 0 0,.slice none 0 0,.slice none 0 0,.int .i64 0]) (by simp[results,Tryz.results32,go_sem,r0,r1,r2,r3,r4,r5,r6,r7,r8,r9,r10,r11,r12]) rfl ⟨.mk 0 [] 0 [] exNone [] [] [] 0,⟨none,0,none,0,none,0,none,0,none,0⟩,rfl,HL.step,(fun y j e=>by cases e),fun h0=>by cases h0⟩
section
theorem fin3 {α γ:Type} {R:Rz γ} {Rl:Rz α} {x:α} {g:α→γ} (hx:∀ y j,Rl= .ok y j→y=x) (e:R=Rl.then fun y j=> .ok (g y) j):R.at=Rl.at∧R.err=Rl.err∧∀ y j,R= .ok y j→y=g x:=by
 have hm:=then_last hx g;rw[e];exact⟨hm.1,hm.2.1,fun y j h=>(hm.2.2 y j h).1⟩
section
variable {b:Nat} {A:Option Addr} {n c:Nat} {l:List Tok} {blk:Nat→Nat→Rz (List Cm)} {k0:Nat}
theorem namC {k o:Nat} {R:Rz Bs} (h:gate o k (nameF l)=R):NamC b A n c l k o R:=Lib.hid fun w' h'=>by subst h;exact sname_any b w' A n c l k o h'
theorem nmC {kind:Int} (hk:kind=3∨kind=8∨kind=9∨kind=11) {k o:Nat} {R:Rz Int} (h:gate o k (numF l kind)=R):NmC b A n c l kind k o R:=Lib.hid fun w' h'=>by subst h;exact snum_any kind hk b w' A n c l k o h'
theorem conC {k o:Nat} {R:Rz Ex} (h:gate o k (condF l)=R):ConC b A n c l k o R:=Lib.hid fun w' h'=>by subst h;exact scond_any b w' A n c l k o h'
theorem bloC (HB:BlkC b A n c l blk k0) {d k o:Nat} {R:Rz (List Cm)} (hk:o=0→k0≤k∧d≤16) (hd:d≤99) (h:gate o k (blk d)=R):BloC b A n c l d k o R:=Lib.hid fun w' h'=>by subst h;exact HB d k o w' hk hd h'
theorem rusC (hIn:BlkIn l blk) (HB:BlkC b A n c l blk k0) {d k o:Nat} {R:Rz (List Ru)} (hk:o=0→k0≤k∧d≤16) (hd:d≤98) (h:gate o k (rulesF l blk d)=R):RusC b A n c l d k o R:=Lib.hid fun w' h'=>by subst h;exact srules_any b A n c l blk hIn k0 HB d k o w' hk hd h'
theorem kowC {S:Bs} {K:Nat} (h:kindW S=K):KowC ⟨S.toArray⟩ K:=Lib.hid fun w'=>by
 have:=skind_any ⟨S.toArray⟩ w';rw[show (⟨S.toArray⟩:ByteArray).data.toList=S from by simp,h] at this;exact this
theorem fofC {K:Nat} (h:1≤K∧K≤16):FofC K ⟨(wordsC.getD (K - 1) []).toArray⟩ (formB K):=Lib.hid fun w'=>sform_any K h w'
theorem scmd_any (hIn:BlkIn l blk) (HB:BlkC b A n c l blk k0) (d k:Nat) (w:World) (hd:d≤16) (hk0:k0≤k+1) (h:RdS b w A n c l k 0) (hk1:(nxz l k).kind=1):
  Calls Tryz.prog 32 #[.pointer (some ⟨b,0,none⟩),.int .i64 d] w (CmdS b w A n c l (cmdF l blk d k)):=by
 have hkl:k<l.length:=nxz_lt (by rw[hk1];decide);have hlen:=h.len;have hkn:k+1≤n:=by omega
 have hk2:k+1≤l.length:=hkl;have KN:=nextC b A n c l k 0;rw[show nxo l k 0=nxz l k from rfl] at KN;obtain⟨K,hK⟩:∃ K,K=kindW (nxz l k).word:=⟨_,rfl⟩;have hK16:=kindW_le (nxz l k).word;rw[←hK] at hK16;have KF:=kowC hK.symm;have hcases:K=0∨K=1∨K=2∨K=3∨K=4∨K=5∨K=6∨K=7∨K=8∨K=9∨K=10∨K=11∨K=12∨K=13∨K=14∨K=15∨K=16:=by omega
 have atge:∀ {α:Type} {R:Rz α} {i m:Nat},R.within i m→R.err=0→i≤R.at∧R.at≤m:=fun {α R i m} hw he=>by
  obtain⟨x,j,hx⟩:=ok_of_err he;subst hx;exact hw
 rcases hcases with rfl | rfl | rfl | rfl | rfl | rfl | rfl | rfl | rfl | rfl | rfl | rfl | rfl | rfl | rfl | rfl | rfl
 ·have e:cmdF l blk d k= .bad k false:=by unfold cmdF;dsimp only;rw[←hK];rfl
  rw[e];exact scmd_0 b w A n c l d k h _ KN KF (refC1 b A n c l k 0 rfl)
 ·have e:cmdF l blk d k=(nameF l (k+1)).then fun s i=>(kindF l 3 i).then fun t j=> .ok (Cm.mk 1 s 0 t.parts exNone [] [] [] (nxz l k).pl) j:=by
   unfold cmdF;dsimp only;rw[←hK];unfold textF;simp only[Rz.then_assoc];rfl
  exact scmd_1 b w A n c l d k h hkn _ KN KF _ (fofC (K:=1) (by decide)) _ _ _ (namC (gate_ok _ _)) (kindC b A n c l 3 _ _ (by decide) rfl)
   (fun s tk hs ht=>fin3 ht (g:=fun t=>Cm.mk 1 s 0 t.parts exNone [] [] [] (nxz l k).pl) (e.trans (then_seq hs (kindF l 3) (fun s t j=> .ok (Cm.mk 1 s 0 t.parts exNone [] [] [] (nxz l k).pl) j)))) (fun he=>(gate_zero (Rz.err_cases _) he).1)
 ·have e:cmdF l blk d k=(nameF l (k+1)).then fun s i=>(condF l i).then fun x j=> .ok (Cm.mk 2 s 0 [] x [] [] [] (nxz l k).pl) j:=by unfold cmdF;dsimp only;rw[←hK];rfl
  exact scmd_2 b w A n c l d k h hkn _ KN KF _ (fofC (K:=2) (by decide)) _ _ _ (namC (gate_ok _ _)) (conC rfl)
   (fun s x hs hx=>fin3 hx (g:=fun x=>Cm.mk 2 s 0 [] x [] [] [] (nxz l k).pl) (e.trans (then_seq hs (condF l) (fun s x j=> .ok (Cm.mk 2 s 0 [] x [] [] [] (nxz l k).pl) j)))) (fun he=>(gate_zero (Rz.err_cases _) he).1)
 ·have e:cmdF l blk d k=(nameF l (k+1)).then fun s i=>(numF l 3 i).then fun z j=> .ok (Cm.mk 3 s z [] exNone [] [] [] (nxz l k).pl) j:=by unfold cmdF;dsimp only;rw[←hK];rfl
  exact scmd_3 b w A n c l d k h hkn _ KN KF _ (fofC (K:=3) (by decide)) _ _ _ (namC (gate_ok _ _)) (nmC (.inl rfl) rfl)
   (fun s z hs hx=>fin3 hx (g:=fun z=>Cm.mk 3 s z [] exNone [] [] [] (nxz l k).pl) (e.trans (then_seq hs (numF l 3) (fun s z j=> .ok (Cm.mk 3 s z [] exNone [] [] [] (nxz l k).pl) j)))) (fun he=>(gate_zero (Rz.err_cases _) he).1)
 ·have e:cmdF l blk d k=(condF l (k+1)).then fun x i=>(blk d i).then fun xs j=>if isT l 1 [101,108,115,101] j then (blk d (j+1)).then fun ys m=> .ok (Cm.mk 4 [] 0 [] x xs ys [] (nxz l k).pl) m else .ok (Cm.mk 4 [] 0 [] x xs [] [] (nxz l k).pl) j:=by unfold cmdF;dsimp only;rw[←hK];rfl
  have e2:∀ x,(∀ y j,condF l (k+1)= .ok y j→y=x)→cmdF l blk d k=(gate (condF l (k+1)).err (condF l (k+1)).at (blk d)).then fun xs j=>if isT l 1 [101,108,115,101] j then (blk d (j+1)).then fun ys m=> .ok (Cm.mk 4 [] 0 [] x xs ys [] (nxz l k).pl) m else .ok (Cm.mk 4 [] 0 [] x xs [] [] (nxz l k).pl) j:=fun x hx=>e.trans (then_seq hx (blk d) (fun x xs j=>if isT l 1 [101,108,115,101] j then (blk d (j+1)).then fun ys m=> .ok (Cm.mk 4 [] 0 [] x xs ys [] (nxz l k).pl) m else .ok (Cm.mk 4 [] 0 [] x xs [] [] (nxz l k).pl) j))
  have K2:=bloC (b:=b) (A:=A) (n:=n) (c:=c) (l:=l) HB (d:=d) (k:=(condF l (k+1)).at) (o:=(condF l (k+1)).err) (fun he=>by have:=atge (condF_in hk2) he;omega) (by omega) rfl
  have hin:(gate (condF l (k+1)).err (condF l (k+1)).at (blk d)).err=0→k0≤(gate (condF l (k+1)).err (condF l (k+1)).at (blk d)).at:=fun he=>by
   obtain⟨e0,x,hx⟩:=gate_zero (Rz.err_cases _) he;have h1:=atge (condF_in hk2) e0;have h2:=within_eq (hIn d _ h1.2) hx;omega
  have E1:(gate (condF l (k+1)).err (condF l (k+1)).at (blk d)).err=0→(condF l (k+1)).err=0:=fun he=>(gate_zero (Rz.err_cases _) he).1
  have K1:=conC (b:=b) (A:=A) (n:=n) (c:=c) (gate_ok (k+1) (condF l));generalize gate (condF l (k+1)).err (condF l (k+1)).at (blk d)=R2 at K2 hin e2 E1
  cases hv:isO l 1 [101,108,115,101] R2.at R2.err with
  | true=>
    obtain⟨e9,ht⟩:=isO_lt (by decide) hv;have KT:=takeC_t (b:=b) (A:=A) (n:=n) (c:=c) (W:=⟨#[101,108,115,101]⟩) (by decide) hv;have K3:=bloC (b:=b) (A:=A) (n:=n) (c:=c) (l:=l) HB (d:=d) (k:=R2.at+1) (o:=R2.err) (R:=blk d (R2.at+1)) (fun he=>by have:=hin he;omega) (by omega) (by rw[e9];rfl);refine scmd_4y b w A n c l d k h hkn _ KN KF _ (fofC (K:=4) (by decide)) _ _ R2 _ _ K1 K2 KT K3 (fun x xs ys hx hxs hys=>fin3 hys (g:=fun ys=>Cm.mk 4 [] 0 [] x xs ys [] (nxz l k).pl) ?_) (fun _=>E1 e9) (fun _=>e9);rw[e2 x hx];obtain⟨y,j,hy⟩:=ok_of_err e9;have:=hxs y j hy;subst this;subst hy;exact if_pos ht
  | false=>
    have KT:=takeC_f (b:=b) (A:=A) (n:=n) (c:=c) (W:=⟨#[101,108,115,101]⟩) (by decide) hv;refine scmd_4n b w A n c l d k h hkn _ KN KF _ (fofC (K:=4) (by decide)) _ _ R2 _ K1 K2 KT (fun x xs hx hxs=>fin3 hxs (g:=fun xs=>Cm.mk 4 [] 0 [] x xs [] [] (nxz l k).pl) ?_) E1;rw[e2 x hx]
    cases R2 with
    | bad j dd=>rfl
    | ok y j=>exact if_neg (by rw[show isT l 1 [101,108,115,101] j=false from hv];decide)
 ·have e:cmdF l blk d k=(condF l (k+1)).then fun x i=>(blk d i).then fun xs j=> .ok (Cm.mk 5 [] 0 [] x xs [] [] (nxz l k).pl) j:=by unfold cmdF;dsimp only;rw[←hK];rfl
  exact scmd_5 b w A n c l d k h hkn _ KN KF _ (fofC (K:=5) (by decide)) _ _ _ (conC (gate_ok _ _)) (bloC HB (fun he=>by have:=atge (condF_in hk2) he;omega) (by omega) rfl)
   (fun x xs hs hx=>fin3 hx (g:=fun xs=>Cm.mk 5 [] 0 [] x xs [] [] (nxz l k).pl) (e.trans (then_seq hs (blk d) (fun x xs j=> .ok (Cm.mk 5 [] 0 [] x xs [] [] (nxz l k).pl) j)))) (fun he=>(gate_zero (Rz.err_cases _) he).1)
 ·have e:cmdF l blk d k=(nameF l (k+1)).then fun s i=>(blk d i).then fun xs j=> .ok (Cm.mk 6 s 0 [] exNone xs [] [] (nxz l k).pl) j:=by unfold cmdF;dsimp only;rw[←hK];rfl
  exact scmd_6 b w A n c l d k h hkn _ KN KF _ (fofC (K:=6) (by decide)) _ _ _ (namC (gate_ok _ _)) (bloC HB (fun he=>by have:=atge (nameF_in hk2) he;omega) (by omega) rfl)
   (fun s xs hs hx=>fin3 hx (g:=fun xs=>Cm.mk 6 s 0 [] exNone xs [] [] (nxz l k).pl) (e.trans (then_seq hs (blk d) (fun s xs j=> .ok (Cm.mk 6 s 0 [] exNone xs [] [] (nxz l k).pl) j)))) (fun he=>(gate_zero (Rz.err_cases _) he).1)
 ·have e:cmdF l blk d k=(nameF l (k+1)).then fun s j=> .ok (Cm.mk 7 s 0 [] exNone [] [] [] (nxz l k).pl) j:=by unfold cmdF;dsimp only;rw[←hK];rfl
  exact scmd_7 b w A n c l d k h hkn _ KN KF _ (fofC (K:=7) (by decide)) _ _ (namC (gate_ok _ _)) (fun s hs=>fin3 hs (g:=fun s=>Cm.mk 7 s 0 [] exNone [] [] [] (nxz l k).pl) e)
 ·have e:cmdF l blk d k=(numF l 8 (k+1)).then fun z j=> .ok (Cm.mk 8 [] z [] exNone [] [] [] (nxz l k).pl) j:=by unfold cmdF;dsimp only;rw[←hK];rfl
  exact scmd_8 b w A n c l d k h hkn _ KN KF _ (fofC (K:=8) (by decide)) _ _ (nmC (.inr (.inl rfl)) (gate_ok _ _)) (fun z hs=>fin3 hs (g:=fun z=>Cm.mk 8 [] z [] exNone [] [] [] (nxz l k).pl) e)
 ·have e:cmdF l blk d k=(numF l 9 (k+1)).then fun z j=> .ok (Cm.mk 9 [] z [] exNone [] [] [] (nxz l k).pl) j:=by unfold cmdF;dsimp only;rw[←hK];rfl
  exact scmd_9 b w A n c l d k h hkn _ KN KF _ (fofC (K:=9) (by decide)) _ _ (nmC (.inr (.inr (.inl rfl))) (gate_ok _ _)) (fun z hs=>fin3 hs (g:=fun z=>Cm.mk 9 [] z [] exNone [] [] [] (nxz l k).pl) e)
 ·have e:cmdF l blk d k=(kindF l 3 (k+1)).then fun t j=> .ok (Cm.mk 10 [] 0 t.parts exNone [] [] [] (nxz l k).pl) j:=by
   unfold cmdF;dsimp only;rw[←hK];unfold textF;simp only[Rz.then_assoc];rfl
  exact scmd_10 b w A n c l d k h hkn _ KN KF _ (fofC (K:=10) (by decide)) _ _ (kindC b A n c l 3 _ _ (by decide) (gate_ok _ _)) (fun tk ht=>fin3 ht (g:=fun t=>Cm.mk 10 [] 0 t.parts exNone [] [] [] (nxz l k).pl) e)
 ·have e:cmdF l blk d k=(numF l 11 (k+1)).then fun z j=> .ok (Cm.mk 11 [] z [] exNone [] [] [] (nxz l k).pl) j:=by unfold cmdF;dsimp only;rw[←hK];rfl
  exact scmd_11 b w A n c l d k h hkn _ KN KF _ (fofC (K:=11) (by decide)) _ _ (nmC (.inr (.inr (.inr rfl))) (gate_ok _ _)) (fun z hs=>fin3 hs (g:=fun z=>Cm.mk 11 [] z [] exNone [] [] [] (nxz l k).pl) e)
 ·have e:cmdF l blk d k=(rulesF l blk d (k+1)).then fun us j=> .ok (Cm.mk 12 [] 0 [] exNone [] [] us (nxz l k).pl) j:=by unfold cmdF;dsimp only;rw[←hK];rfl
  exact scmd_12 b w A n c l d k h hkn _ KN KF _ (fofC (K:=12) (by decide)) _ _ (rusC hIn HB (fun _=>⟨hk0,hd⟩) (by omega) (gate_ok _ _)) (fun us hs=>fin3 hs (g:=fun us=>Cm.mk 12 [] 0 [] exNone [] [] us (nxz l k).pl) e)
 ·have e:cmdF l blk d k=(rulesF l blk d (k+1)).then fun us j=> .ok (Cm.mk 13 [] 0 [] exNone [] [] us (nxz l k).pl) j:=by unfold cmdF;dsimp only;rw[←hK];rfl
  exact scmd_13 b w A n c l d k h hkn _ KN KF _ (fofC (K:=13) (by decide)) _ _ (rusC hIn HB (fun _=>⟨hk0,hd⟩) (by omega) (gate_ok _ _)) (fun us hs=>fin3 hs (g:=fun us=>Cm.mk 13 [] 0 [] exNone [] [] us (nxz l k).pl) e)
 ·have e:cmdF l blk d k=(rulesF l blk d (k+1)).then fun us j=> .ok (Cm.mk 14 [] 0 [] exNone [] [] us (nxz l k).pl) j:=by unfold cmdF;dsimp only;rw[←hK];rfl
  exact scmd_14 b w A n c l d k h hkn _ KN KF _ (fofC (K:=14) (by decide)) _ _ (rusC hIn HB (fun _=>⟨hk0,hd⟩) (by omega) (gate_ok _ _)) (fun us hs=>fin3 hs (g:=fun us=>Cm.mk 14 [] 0 [] exNone [] [] us (nxz l k).pl) e)
 ·have e:cmdF l blk d k= .ok (Cm.mk 15 [] 0 [] exNone [] [] [] (nxz l k).pl) (k+1):=by unfold cmdF;dsimp only;rw[←hK];rfl
  exact scmd_15 b w A n c l d k h hkn _ KN KF _ (fofC (K:=15) (by decide)) _ (by rw[e];exact⟨rfl,rfl,fun y j h=>by injection h with h;exact h.symm⟩)
 ·have e:cmdF l blk d k= .ok (Cm.mk 16 [] 0 [] exNone [] [] [] (nxz l k).pl) (k+1):=by unfold cmdF;dsimp only;rw[←hK];rfl
  exact scmd_16 b w A n c l d k h hkn _ KN KF _ (fofC (K:=16) (by decide)) _ (by rw[e];exact⟨rfl,rfl,fun y j h=>by injection h with h;exact h.symm⟩)
end
end
abbrev CmdC (b:Nat) (A:Option Addr) (n c:Nat) (l:List Tok) (d k:Nat) (R:Rz Cm):Prop:=Hid (∀ w',RdS b w' A n c l k 0→Calls Tryz.prog 32 #[.pointer (some ⟨b,0,none⟩),.int .i64 d] w' fun e w2=>
 ∃ (x:Cm) (lk:Lk),e= .returned (.agg #[.int .i64 x.kind,.string ⟨x.name.toArray⟩,.int .i64 x.n,.slice lk.p x.parts.length lk.cp,.int .i64 x.cond.kind,.int .i64 x.cond.n,.string ⟨x.cond.name.toArray⟩,.string ⟨x.cond.op.toArray⟩,.slice lk.x x.cond.kids.length lk.cx,
  .slice lk.b x.body.length lk.cb,.slice lk.e x.els.length lk.ce,.slice lk.u x.rules.length lk.cu,.int .i64 x.pl])∧StepS b w' A n c l R.at R.err w2∧(∀ y j,R= .ok y j→y=x)∧(R.err=0→KidC (NwX b w'.heap.size w2.heap.size) w2 lk x))
structure CmI (b:Nat) (w:World) (A:Option Addr) (n c:Nat) (l:List Tok) (N k0 d:Nat) (R:Rz (List Cm)) (M:Nat) (v:Value) (wr:World) (es:List XC) (k o:Nat):Prop where
 row:RoG cfC 13 41 KPC b w wr A n c l k o v es
 eq:R=(gate o k (cmdsF l M d)).then fun cs m=> .ok (es.map (·.1)++cs) m
 fuel:o=0→n<k+M∧k0≤k∧d≤16∧es.length≤k
 le:M≤N
theorem CmI.stop {b:Nat} {w wr w':World} {A:Option Addr} {n c:Nat} {l:List Tok} {N k0 d:Nat} {R:Rz (List Cm)} {M:Nat} {v:Value} {es:List XC} {k o:Nat} (h:CmI b w A n c l N k0 d R M v wr es k o) (hk:¬ (nxo l k o).kind=1) (hb:Below wr.heap.size wr w'):RowS b w A n c l R (.returned v) w':=by
 have hR:=h.row.below monoC hb;obtain⟨A',c',rfl,hrow⟩:=rowC_own hR;have hoks:=h.row.cx.rd.oks;by_cases ho:o=0
 ·subst ho
  have hf:=h.fuel rfl;have hle:=h.row.cx.rd.le;obtain⟨M2,rfl⟩:∃ M2,M=M2+1:=⟨M - 1,by omega⟩
  have e1:R= .ok (es.map (·.1)) k:=by
   rw[h.eq,gate_ok,cmdsF,if_neg (show ¬ (nxz l k).kind=1 from hk)];show Rz.ok (es.map (·.1)++[]) k=_;rw[List.append_nil]
  rw[e1];exact⟨A',es.map (·.1),c',rfl,hR.cx.step,fun y j e=>by injection e with e;exact e.symm,fun _=>hrow rfl⟩
 ·have ho2:=hoks.resolve_left ho
  have e1:R.at=k∧R.err=o∧∀ y j,R≠ .ok y j:=by
   rw[h.eq]
   rcases ho2 with rfl | rfl <;> exact⟨rfl,rfl,fun _ _ e=>by cases e⟩
  refine⟨A',es.map (·.1),c',rfl,?_,fun y j e=>absurd e (e1.2.2 y j),fun e=>absurd (e1.2.1.symm.trans e) ho⟩;rw[e1.1,e1.2.1];exact hR.cx.step
theorem CmI.step {b:Nat} {w wr w':World} {A:Option Addr} {n c:Nat} {l:List Tok} {N k0 d:Nat} {R:Rz (List Cm)} {M:Nat} {v:Value} {es:List XC} {k o:Nat} (h:CmI b w A n c l N k0 d R M v wr es k o) (hb:Below wr.heap.size wr w'):CmI b w A n c l N k0 d R M v w' es k o:=⟨h.row.below monoC hb,h.eq,h.fuel,h.le⟩
theorem CmI.more {b:Nat} {w wr w2 w3:World} {A:Option Addr} {n c:Nat} {l:List Tok} {N k0 d:Nat} {R:Rz (List Cm)} {M:Nat} {v:Value} {es:List XC} {k:Nat} (h:CmI b w A n c l N k0 d R (M+1) v wr es k 0) (hk1:(nxz l k).kind=1) {x:Cm} {lk:Lk}
  (hs:StepS b wr A n c l (cmdF l (blockF l (cmdsF l M)) d k).at (cmdF l (blockF l (cmdsF l M)) d k).err w2) (hv:∀ y j,cmdF l (blockF l (cmdsF l M)) d k= .ok y j→y=x) (hk:(cmdF l (blockF l (cmdsF l M)) d k).err=0→KidC (NwX b wr.heap.size w2.heap.size) w2 lk x)
  {g cap:Nat} (hr:w3.ownsRow w.heap.size 41 13 (.slice (some ⟨g,0,none⟩) (es.length+1) cap) (es.length+1) (es.flatMap cfC++cfC (x,lk))) (o:Obj) (hg:(w2.alloc o).grownBy w3 v.ownBlock) (hvg:v.ownBlock=some g∨g=w2.heap.size+1):
  CmI b w A n c l N k0 d R M (.slice (some ⟨g,0,none⟩) (es.length+1) cap) w3 (es++[(x,lk)]) (cmdF l (blockF l (cmdsF l M)) d k).at (cmdF l (blockF l (cmdsF l M)) d k).err:=by
 have hf:=h.fuel rfl;have hlen:=h.row.cx.rd.len;have hkl:k<l.length:=nxz_lt (by rw[hk1];decide);have hin:=cmdF_in (blockF_in (cmdsF_in M)) (d:=d) hkl;refine⟨?_,?_,fun h0=>?_,by have:=h.le;omega⟩
 ·refine((h.row.call monoC hs fun _=>rfl).box monoC o).push monoC (x:=(x,lk)) (fun h0=>?_) hr hg (by simpa using hvg)
  have hown:=h.row.own
  exact((hk h0).of (w':=w2.alloc o) (fun p hp=>World.cell?_of_block (((Below.refl w2.heap.size w2).alloc (Nat.le_refl _) o).block _ (by have:=hs.1.size;have:=h.row.cx.lt;have:=h.row.cx.gr.size;rcases hp with hp | hp <;> omega))) fun _ h=>h).of (fun _ _=>rfl) fun q hq=>
   OwX.of_new (g:=v.ownBlock) h.row.cx.gr.size (fun q hq=>(hown q hq).2) q (NwX.wide (Nat.le_refl _) (by simp) q hq)
 ·rw[h.eq,gate_ok,cmdsF,if_pos hk1,Rz.then_assoc]
  refine(then_known (g:=fun i=>(cmdsF l M d i).then fun cs m=> .ok ((es++[(x,lk)]).map (·.1)++cs) m) fun y j hy=>?_).trans (gate_seq _ _ _ _);rw[hv y j hy,Rz.then_assoc];simp only[List.map_append,List.map_cons,List.map_nil,List.append_assoc,List.singleton_append]
  rfl
 ·obtain⟨y,j,hq⟩:=ok_of_err h0
  have h1:=within_eq hin hq;rw[hq];show n<j+M∧k0≤j∧d≤16∧(es++[(x,lk)]).length≤j;simp;omega
theorem scmds_step (b:Nat) (A:Option Addr) (n c:Nat) (l:List Tok) (N k0:Nat) (hN:n<k0+N) (IH:∀ M,M<N→∀ k1,n<k1+M→RecC b A n c l (cmdsF l M) k1):RecC b A n c l (cmdsF l N) k0:=by
 intro d k o w hk hd h;have hn:=h.few;obtain⟨R,hR⟩:∃ R,R=gate o k (cmdsF l N d):=⟨_,rfl⟩;rw[←hR]
 have HS:Hid (CmI b w A n c l N k0 d R N (.slice none 0 0) w [] k o):=Lib.hid ⟨RoG.start h,by
  rw[hR]
  cases gate o k (cmdsF l N d) <;> rfl,fun h0=>by have:=hk h0;simp;omega,Nat.le_refl _⟩
 have HR:=Lib.hid hR;have KX:Hid (∀ k' o',NextC b A n c l k' o' (nxo l k' o')):=Lib.hid fun k' o'=>nextC b A n c l k' o'
 have KC:Hid (∀ M k',M+1≤N→n<k'+(M+1)→d≤16→(nxz l k').kind=1→CmdC b A n c l d k' (cmdF l (blockF l (cmdsF l M)) d k')):=Lib.hid fun M k' h1 h2 h3 h4=>Lib.hid fun w' h'=>
  scmd_any (blockF_in (cmdsF_in M)) (sblock_any b A n c l (cmdsF l M) (k'+1) (IH M (by omega) (k'+1) (by omega))) d k' w' h3 (Nat.le_refl _) h' h4
 obtain⟨i0,hi0,hz0,hz1,hz2⟩:=info_parts infoC;have tf0:=tokF0;clear hR hk hN IH h;go_enter Tryz.func16,Tryz.ntmps16;go_wp2
 go_loopg [5] N (fun M v wr=>∃ (es:List XC) (k' o' M':Nat),Hid (M=M')∧Hid (CmI b w A n c l N k0 d R M' v wr es k' o'))
 case atStart=>exact⟨_,_,_,_,Lib.hid rfl,HS⟩
 case round=>
  obtain⟨es,k',o',M',HMM,HJ⟩:=hrel;have KN:=KX.out k' o';by_cases e1:(nxo l k' o').kind=1
  ·have ho:o'=0:=by
    by_cases ho:o'=0
    ·exact ho
    ·unfold nxo at e1;rw[if_neg ho] at e1;cases e1
   subst ho;have hf:=HJ.out.fuel rfl;obtain⟨M2,rfl⟩:∃ M2,M'=M2+1:=⟨M' - 1,by have:=HJ.out.row.cx.rd.le;omega⟩;have K3:=KC.out M2 k' HJ.out.le hf.1 hf.2.2.1 e1;have HE1:=Lib.hid e1;have HEL:Hid (es.length≤4000):=Lib.hid (by have:=HJ.out.row.cx.rd.le;omega);unfold NextC at KN;generalize nxo l k' 0=t at KN e1;rw[e1] at KN;clear hf e1;go_wp2_with (first | (go_at_call 31;go_must (((with_reducible refine(KN.out _ HJ.out.row.cx.rd).mono ?_));rintro e w3 ⟨A3,c3,rfl,hb3,hr3⟩;have HJ3:=Lib.hid (HJ.out.step hb3);clear hb3 hr3)) | (go_at_call 32;go_must (((with_reducible refine(K3.out _ HJ3.out.row.cx.rd).mono ?_));rintro e w4 ⟨x,lk,rfl,hs4,hv4,hk4⟩;have HRW:=Lib.hid ((HJ3.out.row.call monoC hs4 fun _=>rfl).box monoC (.cells #[.int .i64 x.kind,.string ⟨x.name.toArray⟩,.int .i64 x.n,.slice lk.p x.parts.length lk.cp,.int .i64 x.cond.kind,.int .i64 x.cond.n,.string ⟨x.cond.name.toArray⟩,.string ⟨x.cond.op.toArray⟩,.slice lk.x x.cond.kids.length lk.cx,.slice lk.b x.body.length lk.cb,.slice lk.e x.els.length lk.ce,.slice lk.u x.rules.length lk.cu,.int .i64 x.pl] 41));have HS4:=Lib.hid hs4;have HV4:=Lib.hid hv4;have HK4:=Lib.hid hk4;clear hs4 hv4 hk4)) | (at_builtin;refine wpList_append_lies _ rfl (.tmp 10) (.tmp 14) 23 rfl w.heap.size 41 i0 (.agg #[.int .i64 0,.string ⟨#[]⟩,.int .i64 0,.slice none 0 0,.int .i64 0,.int .i64 0,.string ⟨#[]⟩,.string ⟨#[]⟩,.slice none 0 0,.slice none 0 0,.slice none 0 0,.slice none 0 0,.int .i64 0]) 13 208 Tryz.underlying23 hi0 hz0 hz1 hz2 rfl (by decide) _ es.length (es.flatMap cfC) rfl HRW.out.row ⟨w4.heap.size,0,none⟩ 1 1 [.int .i64 x.kind,.string ⟨x.name.toArray⟩,.int .i64 x.n,.slice lk.p x.parts.length lk.cp,.int .i64 x.cond.kind,.int .i64 x.cond.n,.string ⟨x.cond.name.toArray⟩,.string ⟨x.cond.op.toArray⟩,.slice lk.x x.cond.kids.length lk.cx,.slice lk.b x.body.length lk.cb,.slice lk.e x.els.length lk.ce,.slice lk.u x.rules.length lk.cu,.int .i64 x.pl] rfl rfl (fun j u hu=>new_cells w4 41 #[.int .i64 x.kind,.string ⟨x.name.toArray⟩,.int .i64 x.n,.slice lk.p x.parts.length lk.cp,.int .i64 x.cond.kind,.int .i64 x.cond.n,.string ⟨x.cond.name.toArray⟩,.string ⟨x.cond.op.toArray⟩,.slice lk.x x.cond.kids.length lk.cx,.slice lk.b x.body.length lk.cb,.slice lk.e x.els.length lk.ce,.slice lk.u x.rules.length lk.cu,.int .i64 x.pl] j u hu) (oneC (x,lk)) (by decide) (by have:=HEL.out;unfold maxLen;omega) (by have:=HEL.out;omega) HRW.out.cx.gr.size (w4.heap.size+1) (by simp) ?_;intro g cap w5 ho hg hvg hgl;have HN:=Lib.hid (HJ3.out.more HE1.out HS4.out HV4.out HK4.out ho _ hg hvg);clear ho hg hvg hgl))
   go_roundg M2
   case measure=>rw[HMM.out];exact Nat.lt_succ_self _
   case rel=>exact⟨_,_,_,_,Lib.hid rfl,HN⟩
  ·have HE1:=Lib.hid e1
   unfold NextC at KN;generalize nxo l k' o'=t at KN e1;generalize t.kind=kd at KN e1;have b1:(kd==1)=false:=by simpa using e1
   clear e1;go_wp2_with (first | (go_at_call 31;go_must (((with_reducible refine(KN.out _ HJ.out.row.cx.rd).mono ?_));rintro e w3 ⟨A3,c3,rfl,hb3,hr3⟩;have HB3:=Lib.hid hb3;clear hb3 hr3)));go_ret;exact HJ.out.stop HE1.out HB3.out
theorem scmds_all (b:Nat) (A:Option Addr) (n c:Nat) (l:List Tok):∀ N k0,n<k0+N→RecC b A n c l (cmdsF l N) k0:=by
 intro N
 induction N using Nat.strongRecOn with
 | ind N ih=>exact fun k0 h=>scmds_step b A n c l N k0 h ih
theorem scan_fitS (s:ByteArray) (hs:s.size≤250):(∃ q e,scan s.data.toList=(none,q,e)∧(e=1∨e=2∨e=3))∨∃ ts,scan s.data.toList=(some ts,0,0)∧FitL ts∧ts.length≤250:=by
 have hl:s.data.toList.length≤250:=by rw[len_data];omega
 rcases scan_cases s.data.toList with ⟨q,e,h,he,_⟩ | ⟨out,h,h1,h2,_⟩
 ·exact .inl ⟨q,e,h,he⟩
 ·exact .inr ⟨out,h,fitl_read h1 h2 (by omega),by omega⟩
noncomputable def ansS (ts:List Tok) (len:Nat):List Cm × Int × Int:=match allF ts with
 | .ok xs _=>(xs,0,0)
 | .bad j d=>([],if j<ts.length then (nxz ts j).pl else len,if d then 8 else 1)
noncomputable def parS (s:Bs):List Cm × Int × Int:=match scan s with
 | (none,q,e)=>([],q,e)
 | (some ts,_,_)=>ansS ts s.length
def ParP (w:World) (r:List Cm × Int × Int) (e:Ending) (w':World):Prop:=∃ A c,e= .returned (.tuple #[.slice A r.1.length c,.int .i64 r.2.1,.int .i64 r.2.2])∧Below w.heap.size w w'∧RowC (LtX w'.heap.size) w' A r.1
theorem rds_new {w:World} {A:Option Addr} {n c:Nat} {l:List Tok} (h:RdT w.heap.size w A n l) (hf:FitL l) (hn:l.length≤250) (hG:Given w):RdS w.heap.size (w.alloc (.cells #[.slice A n c,.int .i64 0,.int .i64 0] 49)) A n c l 0 0:=by
 have hb:Below w.heap.size w (w.alloc (.cells #[.slice A n c,.int .i64 0,.int .i64 0] 49)):=(Below.refl _ _).alloc (Nat.le_refl _) _;exact⟨new_at _ _ _ 0 _ rfl,new_at _ _ _ 1 _ rfl,new_at _ _ _ 2 _ rfl,by simp[go_sem],by simp[go_sem],h.keep hb,fun w' hb'=>hG.below (hb.trans hb'),hf,Nat.zero_le _,.inl rfl,by rw[h.1];omega⟩
theorem sparse_bad (s:ByteArray) (q:Nat) (e:Int) (he:e=1∨e=2∨e=3) (w:World) (K:Hid (Calls Tryz.prog 15 #[.string s] w (ReadT w [] q e))):Calls Tryz.prog 6 #[.string s] w (ParP w ([],q,e)):=by
 have b1:(e != 0)=true:=by rcases he with rfl | rfl | rfl <;> rfl
 unfold ReadT at K;clear he;go_enter Tryz.func6,Tryz.ntmps6;go_wp2_with (go_at_call 15;go_must (((with_reducible refine(K.out).mono ?_));rintro e w1 ⟨A1,c1,rfl,hr1,hb1⟩;have HB:=Lib.hid hb1;clear hb1 hr1))
 go_ret3
 exact⟨none,0,rfl,HB.out,.inl rfl⟩
theorem sparse_ok (s:ByteArray) (ts:List Tok) (hf:FitL ts) (hts:ts.length≤250) (w:World) (hG:Given w) (K:Hid (Calls Tryz.prog 15 #[.string s] w (ReadT w ts 0 0))):Calls Tryz.prog 6 #[.string s] w (ParP w (ansS ts s.size)):=by
 have K2:Hid (∀ b A c w',RdS b w' A ts.length c ts 0 0→Calls Tryz.prog 16 #[.pointer (some ⟨b,0,none⟩),.int .i64 0] w' (RowS b w' A ts.length c ts (cmdsF ts (ts.length+1) 0 0))):=Lib.hid fun b A c w' h'=>
  scmds_all b A ts.length c ts (ts.length+1) 0 (by omega) 0 0 0 w' (fun _=>⟨Nat.le_refl _,by omega⟩) (by omega) h'
 have HF:=Lib.hid hf;have HG:=Lib.hid hG;have HT:=Lib.hid hts;obtain⟨R,hR⟩:∃ R,R=cmdsF ts (ts.length+1) 0 0:=⟨_,rfl⟩;have hA:allF ts=R.then fun x j=>if j<ts.length then .bad j false else .ok x j:=by rw[hR];rfl
 have hin:R.at≤ts.length:=by rw[hR];exact(cmdsF_in (l:=ts) (ts.length+1) 0 0 (Nat.zero_le _)).at_le
 rw[←hR] at K2;clear hR hf hG hts;unfold ReadT at K;unfold RowS at K2;obtain⟨n,hn⟩:∃ n,n=ts.length:=⟨_,rfl⟩;rw[←hn] at K K2;by_cases h1:R.at<n
 ·have hans:ansS ts s.size=([],(nxz ts R.at).pl,if R.err=0 then 1 else (R.err:Int)):=by
   cases R with
   | ok x j=>
     have h1':j<ts.length:=by rw[←hn];exact h1
     have e:allF ts= .bad j false:=hA.trans (if_pos h1');unfold ansS;rw[e];show ([],if j<ts.length then (nxz ts j).pl else (s.size:Int),_)=_;rw[if_pos h1'];rfl
   | bad j d=>
     have h1':j<ts.length:=by rw[←hn];exact h1
     have e:allF ts= .bad j d:=hA;unfold ansS;rw[e];show ([],if j<ts.length then (nxz ts j).pl else (s.size:Int),_)=_;rw[if_pos h1'];cases d <;> rfl
  rw[hans];obtain⟨t,ht⟩:∃ t,ts[R.at]?=some t:=⟨_,List.getElem?_eq_getElem (by omega)⟩;rw[nxz_at ht];have KR:Hid (∀ b A c,RefC b A n c ts 1 R.at R.err (if R.err=0 then 1 else R.err)):=Lib.hid fun b A c=>refC1 b A n c ts R.at R.err rfl
  have he2:¬ (if R.err=0 then 1 else R.err)=0:=by split <;> omega
  rw[show (if R.err=0 then (1:Int) else (R.err:Int))=((if R.err=0 then 1 else R.err:Nat):Int) by split <;> rfl];generalize (if R.err=0 then 1 else R.err)=o2 at KR he2 ⊢;obtain⟨b1,b2,b3,b4⟩:=neq0_f he2;have HTT:=Lib.hid ht;have HN:=Lib.hid hn;have hn2:n≤250:=by rw[hn];exact HT.out
  clear ht he2 hans hA hin hn;go_enter Tryz.func6,Tryz.ntmps6;go_wp2_with (first | (go_at_call 15;go_must (((with_reducible refine(K.out).mono ?_));rintro e w1 ⟨A1,c1,rfl,hr1,hb1⟩;have HS:=Lib.hid (rds_new (c:=c1) (by rw[HN.out] at hr1;rw[HN.out];exact hr1) HF.out HT.out (HG.out.below hb1):RdS w1.heap.size (w1.alloc (.cells #[.slice A1 n c1,.int .i64 0,.int .i64 0] 49)) A1 n c1 ts 0 0);have HB:=Lib.hid hb1;clear hb1 hr1)) | (go_at_call 16;go_must (((with_reducible refine(K2.out _ _ _ _ HS.out).mono ?_));rintro e w2 ⟨A2,xs,c2,rfl,hs2,hv2,hr2⟩;have HC:=Lib.hid ((Cx.start HS.out).call hs2);obtain⟨d0,d1,d2,d3,d4⟩:=HC.out.rd.five;clear hs2 hv2 hr2)) | (go_at_call 17;go_must (((with_reducible refine((KR.out _ _ _).out _ HC.out.rd).mono ?_));rintro e w3 ⟨rfl,hs3⟩;have HD:=Lib.hid (HC.out.call hs3);obtain⟨d0,d1,d2,d3,d4⟩:=HD.out.rd.five;obtain⟨ad,A',c',rfl,h5,_⟩:=HD.out.rd.row.at_ HTT.out;have y4:=h5.2.2.2.2;clear hs3 h5)));go_quiet (fail);go_wp2
  go_ret3
  exact⟨none,0,rfl,HB.out.trans (((one_boxX w1 _).trans (HD.out.low.trans (below_drewN (Below.refl _ _) _))).mono HB.out.size),.inl rfl⟩
 ·have h2:R.at=n:=by omega
  have b5:¬ (R.at:Int)<n:=by omega
  have HN:=Lib.hid hn;have H2:=Lib.hid h2;by_cases h0:R.err=0
  ·obtain⟨xs0,j0,hx⟩:=ok_of_err h0
   have hans:ansS ts s.size=(xs0,0,0):=by
    have e:allF ts= .ok xs0 j0:=by
     rw[hA,hx];exact if_neg (by rw[hx] at h1;rw[←hn];exact h1)
    unfold ansS;rw[e]
   rw[hans];have HX:=Lib.hid hx;have H0:=Lib.hid h0;obtain⟨b1,b2,b3,b4⟩:=eqI_t h0;clear hans hA hin hn h2 hx h1 h0;go_enter Tryz.func6,Tryz.ntmps6;go_wp2_with (first | (go_at_call 15;go_must (((with_reducible refine(K.out).mono ?_));rintro e w1 ⟨A1,c1,rfl,hr1,hb1⟩;have HS:=Lib.hid (rds_new (c:=c1) (by rw[HN.out] at hr1;rw[HN.out];exact hr1) HF.out HT.out (HG.out.below hb1):RdS w1.heap.size (w1.alloc (.cells #[.slice A1 n c1,.int .i64 0,.int .i64 0] 49)) A1 n c1 ts 0 0);have HB:=Lib.hid hb1;clear hb1 hr1)) | (go_at_call 16;go_must (((with_reducible refine(K2.out _ _ _ _ HS.out).mono ?_));rintro e w2 ⟨A2,xs,c2,rfl,hs2,hv2,hr2⟩;have HC:=Lib.hid ((Cx.start HS.out).call hs2);have HV2:=Lib.hid hv2;have HR2:=Lib.hid hr2;obtain⟨d0,d1,d2,d3,d4⟩:=HC.out.rd.five;clear hs2 hv2 hr2)))
   go_ret3
   have hv:=HV2.out xs0 j0 HX.out;subst hv
   exact⟨A2,c2,rfl,HB.out.trans (((one_boxX w1 _).trans HC.out.low).mono HB.out.size),(HR2.out H0.out).of (fun _ _=>rfl) fun q hq=>by
    have:=HC.out.gr.size;have:=HC.out.lt;show q<w2.heap.size
    rcases hq with hq | hq <;> omega⟩
  ·have hans:ansS ts s.size=([],(s.size:Int),(R.err:Int)):=by
    have e:∃ d,allF ts= .bad n d∧(R.err:Int)=if d then 8 else 1:=by
     cases R with
     | ok x j=>exact absurd rfl h0
     | bad j d=>exact⟨d,by rw[←h2];exact hA,by cases d <;> rfl⟩
    obtain⟨d,e,e2⟩:=e;unfold ansS;rw[e,e2];show ([],if n<ts.length then (nxz ts n).pl else (s.size:Int),_)=_;rw[if_neg (by omega)]
   rw[hans];obtain⟨b1,b2,b3,b4⟩:=neq0_f h0;have H0:=Lib.hid h0;clear hans hA hin hn h2 h1 h0;go_enter Tryz.func6,Tryz.ntmps6;go_wp2_with (first | (go_at_call 15;go_must (((with_reducible refine(K.out).mono ?_));rintro e w1 ⟨A1,c1,rfl,hr1,hb1⟩;have HS:=Lib.hid (rds_new (c:=c1) (by rw[HN.out] at hr1;rw[HN.out];exact hr1) HF.out HT.out (HG.out.below hb1):RdS w1.heap.size (w1.alloc (.cells #[.slice A1 n c1,.int .i64 0,.int .i64 0] 49)) A1 n c1 ts 0 0);have HB:=Lib.hid hb1;clear hb1 hr1)) | (go_at_call 16;go_must (((with_reducible refine(K2.out _ _ _ _ HS.out).mono ?_));rintro e w2 ⟨A2,xs,c2,rfl,hs2,hv2,hr2⟩;have HC:=Lib.hid ((Cx.start HS.out).call hs2);have HV2:=Lib.hid hv2;have HR2:=Lib.hid hr2;obtain⟨d0,d1,d2,d3,d4⟩:=HC.out.rd.five;clear hs2 hv2 hr2)))
   trace_state
   go_quiet (fail);go_wp2
   go_ret3
   exact⟨none,0,rfl,HB.out.trans (((one_boxX w1 _).trans (HC.out.low.trans (below_drewN (Below.refl _ _) _))).mono HB.out.size),.inl rfl⟩
theorem cparse_any (s:ByteArray) (hs:s.size≤250) (w:World) (hG:Given w):Calls Tryz.prog 6 #[.string s] w (ParP w (parS s.data.toList)):=by
 rcases scan_fitS s hs with ⟨q,e,h,he⟩ | ⟨ts,h,hf,hl⟩
 ·have e1:parS s.data.toList=([],(q:Int),e):=by unfold parS;rw[h]
  rw[e1];exact sparse_bad s q e he w (Lib.hid (scan_read s (by omega) none q e [] rfl h w hG))
 ·have e1:parS s.data.toList=ansS ts s.size:=by unfold parS;rw[h];show ansS ts s.data.toList.length=_;rw[len_data]
  rw[e1];exact sparse_ok s ts hf hl w hG (Lib.hid (scan_read s (by omega) (some ts) 0 0 ts rfl h w hG))
mutual
def stC:Cm→Cm
 | .mk k nm n ps x b e u _=> .mk k nm n ps x (stCL b) (stCL e) (stRL u) 0
def stR:Ru→Ru
 | .mk k q pk pt b _=> .mk k q pk pt (stCL b) 0
def stCL:List Cm→List Cm
 | []=>[]
 | c::cs=>stC c::stCL cs
def stRL:List Ru→List Ru
 | []=>[]
 | r::rs=>stR r::stRL rs
end
theorem stCL_map:∀ l:List Cm,stCL l=l.map stC
 | []=>by rw[stCL];rfl
 | c::cs=>by rw[stCL,stCL_map cs];rfl
theorem stRL_map:∀ l:List Ru,stRL l=l.map stR
 | []=>by rw[stRL];rfl
 | c::cs=>by rw[stRL,stRL_map cs];rfl
theorem stC_eq {k n p k2 n2 p2:Int} {nm nm2:Bs} {ps ps2:List Pt} {x x2:Ex} {b e b2 e2:List Cm} {u u2:List Ru}:stC (.mk k nm n ps x b e u p)=stC (.mk k2 nm2 n2 ps2 x2 b2 e2 u2 p2) ↔
  k=k2∧nm=nm2∧n=n2∧ps=ps2∧x=x2∧b.map stC=b2.map stC∧e.map stC=e2.map stC∧u.map stR=u2.map stR:=by
 rw[stC,stC,stCL_map,stCL_map,stCL_map,stCL_map,stRL_map,stRL_map]
 constructor
 ·intro h;injection h with h1 h2 h3 h4 h5 h6 h7 h8;exact⟨h1,h2,h3,h4,h5,h6,h7,h8⟩
 ·rintro⟨rfl,rfl,rfl,rfl,rfl,h6,h7,h8⟩;rw[h6,h7,h8]
theorem stR_eq {k q pk p k2 q2 pk2 p2:Int} {pt pt2:Bs} {b b2:List Cm}:stR (.mk k q pk pt b p)=stR (.mk k2 q2 pk2 pt2 b2 p2) ↔ k=k2∧q=q2∧(pk=pk2∧pt=pt2)∧b.map stC=b2.map stC:=by
 rw[stR,stR,stCL_map,stCL_map]
 constructor
 ·intro h;injection h with h1 h2 h3 h4 h5;exact⟨h1,h2,⟨h3,h4⟩,h5⟩
 ·rintro⟨rfl,rfl,⟨rfl,rfl⟩,h⟩;rw[h]
mutual
inductive FitC:Cm→Prop where
 | mk {k nm n ps x b e u p}:nm.length≤1000000→ps.length≤100000→(∀ q∈ps,q.1.length≤100000∧q.2.length≤100000)→sizeX x≤1000000→nmX x≤1000000→b.length≤1000000→e.length≤1000000→u.length≤1000000→
   (∀ c∈b,FitC c)→(∀ c∈e,FitC c)→(∀ r∈u,FitR r)→FitC (.mk k nm n ps x b e u p)
inductive FitR:Ru→Prop where
 | mk {k q pk pt b p}:pt.length≤1000000→b.length≤1000000→(∀ c∈b,FitC c)→FitR (.mk k q pk pt b p)
end
theorem underP:Tryz.prog.underlying 63=some (.struct (Tryz.prog.fieldsOf 63)):=by kernel_rfl
theorem heldP:Tryz.prog.stoodInHeld 63=false:=by kernel_rfl
theorem fieldsP:(Tryz.prog.fieldsOf 63).toList.map (fun f=>(f.name,f.type,f.offset))=[("Kind",3,0),("Text",9,1)]:=by kernel_rfl
theorem eqlP_any (x x':Int) (y y':ByteArray) (w:World):(binOp .eql 63 (.agg #[.int .i64 x,.string y]) (.agg #[.int .i64 x',.string y'])).run Tryz.prog w= .ok (.bool (x==x' && y.toList==y'.toList)) w:=by
 have hf:=fieldsP;rw[run_eql_struct,run_equalIn_struct w 9999 63 _ _ underP heldP];generalize (Tryz.prog.fieldsOf 63).toList=L at hf ⊢
 rcases L with _ | ⟨f,_ | ⟨g,_ | ⟨h,L⟩⟩⟩
 ·simp at hf
 ·simp at hf
 ·simp only[List.map_cons,List.map_nil,List.cons.injEq,Prod.mk.injEq,and_true] at hf
  obtain⟨⟨f1,f2,f3⟩,⟨g1,g2,g3⟩⟩:=hf;by_cases e1:(x==x')=true
  ·by_cases e2:(y.toList==y'.toList)=true
   ·simp[Op.eqFields,f1,f2,f3,g1,g2,g3,go_sem,run_equalIn_int _ 9998 3 _ _ _ _ Tryz.underlying3,run_equalIn_string _ 9998 9 _ _ Tryz.underlying9,e1,e2]
   ·simp[Op.eqFields,f1,f2,f3,g1,g2,g3,go_sem,run_equalIn_int _ 9998 3 _ _ _ _ Tryz.underlying3,run_equalIn_string _ 9998 9 _ _ Tryz.underlying9,e1,e2]
  ·simp[Op.eqFields,f1,f2,f3,g1,g2,g3,go_sem,run_equalIn_int _ 9998 3 _ _ _ _ Tryz.underlying3,run_equalIn_string _ 9998 9 _ _ Tryz.underlying9,e1]
 ·simp at hf
theorem neqP_any (x x':Int) (y y':ByteArray) (w:World):(binOp .neq 63 (.agg #[.int .i64 x,.string y]) (.agg #[.int .i64 x',.string y'])).run Tryz.prog w= .ok (.bool (!(x==x' && y.toList==y'.toList))) w:=by
 have hf:=fieldsP;rw[run_neq_struct,run_equalIn_struct w 9999 63 _ _ underP heldP];generalize (Tryz.prog.fieldsOf 63).toList=L at hf ⊢
 rcases L with _ | ⟨f,_ | ⟨g,_ | ⟨h,L⟩⟩⟩
 ·simp at hf
 ·simp at hf
 ·simp only[List.map_cons,List.map_nil,List.cons.injEq,Prod.mk.injEq,and_true] at hf
  obtain⟨⟨f1,f2,f3⟩,⟨g1,g2,g3⟩⟩:=hf;by_cases e1:(x==x')=true
  ·by_cases e2:(y.toList==y'.toList)=true
   ·simp[Op.eqFields,f1,f2,f3,g1,g2,g3,go_sem,run_equalIn_int _ 9998 3 _ _ _ _ Tryz.underlying3,run_equalIn_string _ 9998 9 _ _ Tryz.underlying9,e1,e2]
   ·simp[Op.eqFields,f1,f2,f3,g1,g2,g3,go_sem,run_equalIn_int _ 9998 3 _ _ _ _ Tryz.underlying3,run_equalIn_string _ 9998 9 _ _ Tryz.underlying9,e1,e2]
  ·simp[Op.eqFields,f1,f2,f3,g1,g2,g3,go_sem,run_equalIn_int _ 9998 3 _ _ _ _ Tryz.underlying3,run_equalIn_string _ 9998 9 _ _ Tryz.underlying9,e1]
 ·simp at hf
theorem cpart_any (A A':Option Addr) (n n' c c':Nat) (ps qs:List Pt) (w:World) (h:Rd w.heap.size w A n ps) (h':Rd w.heap.size w A' n' qs) (hmax:n≤1000000):
  Calls Tryz.prog 38 #[.slice A n c,.slice A' n' c'] w fun e w'=>e= .returned (.bool (eqB ps qs))∧Below w.heap.size w w':=by
 by_cases hnn:n=n'
 ·subst hnn
  obtain⟨v,hv⟩:∃ v,v=eqB ps qs:=⟨_,rfl⟩;rw[←hv];have HV:=Lib.hid hv;have HN:=Lib.hid h.1;have HN':=Lib.hid h'.1;have HR:=Lib.hid h;have HR':=Lib.hid h';have b1:((n:Int) != (n:Int))=false:=by simp
  clear h h' hv;go_enter Tryz.func38,Tryz.ntmps38;go_wp2
  go_loopw [13,5] (fun i _ wr=>∃ (k m:Nat),k≤n∧i= .int .i64 k∧ps.take k=qs.take k∧wr=w.drewN m) (fun i _ _=>n - (intOf i).toNat)
  case atStart=>exact⟨0,0,by omega,rfl,rfl,rfl⟩
  case round=>
   obtain⟨k,m,hk,rfl,htk,rfl⟩:=hrel;have HT:=Lib.hid htk;clear htk;by_cases a:k<n
   ·obtain⟨ad,rfl,hr⟩:=HR.out.2 (by omega)
    obtain⟨ad',rfl,hr'⟩:=HR'.out.2 (by omega);obtain⟨p,hp⟩:∃ p,ps[k]?=some p:=⟨_,List.getElem?_eq_getElem (by have:=HN.out;omega)⟩;obtain⟨q,hq⟩:∃ q,qs[k]?=some q:=⟨_,List.getElem?_eq_getElem (by have:=HN'.out;omega)⟩;obtain⟨c0,c1⟩:=hr.at_ hp
    obtain⟨d0,d1⟩:=hr'.at_ hq
    have hcmp:=fun W:World=>neq_pt p q W
    by_cases e:p=q
    ·have HX:Hid (ps.take (k+1)=qs.take (k+1)):=Lib.hid (by
      rw[←e] at hq;exact take_eqX HT.out hp hq)
     rw[decide_eq_true e] at hcmp;simp only[Bool.not_true] at hcmp;clear hr hr' hp hq e;go_wp2;go_quiet (fail);go_wp2
     go_roundw
     case rel=>exact⟨k+1,_,by omega,by go_num,HX.out,rfl⟩
     case measure=>simp[intOf];omega
    ·have HX:Hid (v=false):=Lib.hid (by rw[HV.out];exact eqB_no (not_eqX hp hq e))
     rw[decide_eq_false e] at hcmp;simp only[Bool.not_false] at hcmp;clear hr hr' hp hq e;go_wp2;go_quiet (fail);go_wp2;go_ret;exact⟨ret_bool HX.out.symm,below_drewN (below_drewN (Below.refl _ _) _) _⟩
   ·have HX:Hid (v=true):=Lib.hid (by
     have h1:=HT.out;rw[List.take_of_length_le (by have:=HN.out;omega),List.take_of_length_le (by have:=HN'.out;omega)] at h1;rw[HV.out];exact eqB_yes h1)
    go_wp2;go_ret;exact⟨ret_bool HX.out.symm,below_drewN (Below.refl _ _) m⟩
 ·have hne:eqB ps qs=false:=eqB_no (by rintro rfl;exact hnn (h.1.trans h'.1.symm))
  rw[hne];have b1:((n:Int) != (n':Int))=true:=by simp;omega
  have b2:(n != n')=true:=by simpa using hnn
  clear h h' hne hnn;go_enter Tryz.func38,Tryz.ntmps38;go_wp2;go_ret;exact⟨rfl,Below.refl _ _⟩
theorem LieL.at6 {w:World} {a:Addr} {v0 v1 v2 v3 v4 v5:Value} (h:LieL w a [v0,v1,v2,v3,v4,v5]):w.cell? a=some v0∧w.cell? ⟨a.block,a.off+1,none⟩=some v1∧w.cell? ⟨a.block,a.off+2,none⟩=some v2∧w.cell? ⟨a.block,a.off+3,none⟩=some v3∧w.cell? ⟨a.block,a.off+4,none⟩=some v4∧w.cell? ⟨a.block,a.off+5,none⟩=some v5:=by
 have h0:=h 0 _ rfl;rw[show a.add 0=a by simp[Addr.add]] at h0;have g:∀ i,0<i→a.add i=⟨a.block,a.off+i,none⟩:=fun i hi=>by unfold Addr.add;rw[if_neg (by omega)]
 exact⟨h0,by rw[←g 1 (by decide)];exact h 1 _ rfl,by rw[←g 2 (by decide)];exact h 2 _ rfl,by rw[←g 3 (by decide)];exact h 3 _ rfl,by rw[←g 4 (by decide)];exact h 4 _ rfl,by rw[←g 5 (by decide)];exact h 5 _ rfl⟩
theorem LieL.at13 {w:World} {a:Addr} {v0 v1 v2 v3 v4 v5 v6 v7 v8 v9 v10 v11 v12:Value} (h:LieL w a [v0,v1,v2,v3,v4,v5,v6,v7,v8,v9,v10,v11,v12]):w.cell? a=some v0∧w.cell? ⟨a.block,a.off+1,none⟩=some v1∧w.cell? ⟨a.block,a.off+2,none⟩=some v2∧w.cell? ⟨a.block,a.off+3,none⟩=some v3∧w.cell? ⟨a.block,a.off+4,none⟩=some v4∧w.cell? ⟨a.block,a.off+5,none⟩=some v5∧w.cell? ⟨a.block,a.off+6,none⟩=some v6∧w.cell? ⟨a.block,a.off+7,none⟩=some v7∧w.cell? ⟨a.block,a.off+8,none⟩=some v8∧w.cell? ⟨a.block,a.off+9,none⟩=some v9∧w.cell? ⟨a.block,a.off+10,none⟩=some v10∧w.cell? ⟨a.block,a.off+11,none⟩=some v11∧w.cell? ⟨a.block,a.off+12,none⟩=some v12:=by
 have h0:=h 0 _ rfl;rw[show a.add 0=a by simp[Addr.add]] at h0;have g:∀ i,0<i→a.add i=⟨a.block,a.off+i,none⟩:=fun i hi=>by unfold Addr.add;rw[if_neg (by omega)]
 exact⟨h0,by rw[←g 1 (by decide)];exact h 1 _ rfl,by rw[←g 2 (by decide)];exact h 2 _ rfl,by rw[←g 3 (by decide)];exact h 3 _ rfl,by rw[←g 4 (by decide)];exact h 4 _ rfl,by rw[←g 5 (by decide)];exact h 5 _ rfl,by rw[←g 6 (by decide)];exact h 6 _ rfl,by rw[←g 7 (by decide)];exact h 7 _ rfl,by rw[←g 8 (by decide)];exact h 8 _ rfl,by rw[←g 9 (by decide)];exact h 9 _ rfl,by rw[←g 10 (by decide)];exact h 10 _ rfl,by rw[←g 11 (by decide)];exact h 11 _ rfl,by rw[←g 12 (by decide)];exact h 12 _ rfl⟩
theorem rowC_at {w wr:World} {A:Option Addr} {b:List Cm} {x:Cm} {j:Nat} (h:RowC (LtX w.heap.size) w A b) (hb:Below w.heap.size w wr) (hx:b[j]?=some x):
  ∃ ad lk,A=some ad∧ad.block<w.heap.size∧LieL wr (ad.add (j * 13)) (cellsC x lk)∧KidC (LtX w.heap.size) w lk x:=by
 rcases h with h | ⟨ad,rfl,hp,hl⟩
 ·simp[h] at hx
 ·obtain⟨lk,h1,h2⟩:=kidCL_iff.1 hl j x hx
  rw[Nat.zero_add] at h1;exact⟨ad,lk,rfl,hp,h1.keep fun p hpb=>hb.cell (by rw[hpb,blockX_add];exact hp),h2⟩
theorem rowU_at {w wr:World} {A:Option Addr} {b:List Ru} {x:Ru} {j:Nat} (h:RowU (LtX w.heap.size) w A b) (hb:Below w.heap.size w wr) (hx:b[j]?=some x):
  ∃ ad A' c',A=some ad∧ad.block<w.heap.size∧LieL wr (ad.add (j * 6)) (cellsR x A' c')∧KidR (LtX w.heap.size) w A' x:=by
 rcases h with h | ⟨ad,rfl,hp,hl⟩
 ·simp[h] at hx
 ·obtain⟨A',c',h1,h2⟩:=kidRL_iff.1 hl j x hx
  rw[Nat.zero_add] at h1;exact⟨ad,A',c',rfl,hp,h1.keep fun p hpb=>hb.cell (by rw[hpb,blockX_add];exact hp),h2⟩
def PC (x:Cm):Prop:=∀ (y:Cm) (lk lk':Lk) (w:World),KidC (LtX w.heap.size) w lk x→KidC (LtX w.heap.size) w lk' y→FitC x→FitC y→
 Calls Tryz.prog 26 #[valC x lk,valC y lk'] w fun e w'=>e= .returned (.bool (eqB (stC x) (stC y)))∧Below w.heap.size w w'
def PR (x:Ru):Prop:=∀ (y:Ru) (A A':Option Addr) (c c':Nat) (w:World),KidR (LtX w.heap.size) w A x→KidR (LtX w.heap.size) w A' y→FitR x→FitR y→
 Calls Tryz.prog 41 #[valR x A c,valR y A' c'] w fun e w'=>e= .returned (.bool (eqB (stR x) (stR y)))∧Below w.heap.size w w'
theorem map_getX {α β:Type} {f:α→β} {l:List α} {j:Nat} {x:α} (h:l[j]?=some x):(l.map f)[j]?=some (f x):=by rw[List.getElem?_map,h];rfl
theorem eqC_list (ks ks2:List Cm) (ih:∀ x∈ks,PC x) (A A':Option Addr) (c c':Nat) (w:World) (hk:RowC (LtX w.heap.size) w A ks) (hk':RowC (LtX w.heap.size) w A' ks2) (hs:∀ x∈ks,FitC x) (hs':∀ x∈ks2,FitC x) (hm9:ks.length≤1000000):
  Calls Tryz.prog 25 #[.slice A ks.length c,.slice A' ks2.length c',.func (.func 26) #[] #[]] w fun e w'=>e= .returned (.bool (eqB (ks.map stC) (ks2.map stC)))∧Below w.heap.size w w':=by
 obtain⟨v,hv⟩:∃ v,v=eqB (ks.map stC) (ks2.map stC):=⟨_,rfl⟩;rw[←hv];have HV:=Lib.hid hv;obtain⟨m,hm⟩:∃ m,m=ks.length:=⟨_,rfl⟩;obtain⟨m2,hm2⟩:∃ m,m=ks2.length:=⟨_,rfl⟩;rw[←hm] at hm9;rw[←hm,←hm2];have HK:=Lib.hid hk;have HK':=Lib.hid hk';have HI:=Lib.hid ih;have HS:=Lib.hid hs;have HS':=Lib.hid hs';have HM:=Lib.hid hm;have HM':=Lib.hid hm2;clear hv ih hk hk' hs hs' hm hm2;by_cases f6:m=m2
 ·have g6:((m:Int) != (m2:Int))=false:=by simp[f6]
  have g7:(m != m2)=false:=by simp[f6]
  subst f6;go_enter Tryz.func25,Tryz.ntmps25;go_wp2
  go_loopw [17] (fun i wr=>∃ j:Nat,j≤m∧i= .int .i64 j∧(ks.map stC).take j=(ks2.map stC).take j∧Below w.heap.size w wr) (fun i _=>m - (intOf i).toNat)
  case atStart=>exact⟨0,by omega,rfl,rfl,Below.refl _ _⟩
  case round=>
   obtain⟨j,hj,rfl,ht,hb⟩:=hrel;have HB:=Lib.hid hb;have HT:=Lib.hid ht;clear ht;by_cases a:j<m
   ·obtain⟨r,hr⟩:=getX_of_lt HM.out a
    obtain⟨r',hr'⟩:=getX_of_lt HM'.out a;obtain⟨ad,lk,rfl,hp,h9,hkr⟩:=rowC_at HK.out hb hr;obtain⟨ad',lk',rfl,hp',h9',hkr'⟩:=rowC_at HK'.out hb hr';have hmem:=List.mem_of_getElem? hr;have hmem':=List.mem_of_getElem? hr';obtain⟨v2,hv2⟩:∃ v2,v2=eqB (stC r) (stC r'):=⟨_,rfl⟩
    have K:∀ w2,Below wr.heap.size wr w2→Calls Tryz.prog 26 #[.agg #[.int .i64 r.kind,.string ⟨r.name.toArray⟩,.int .i64 r.n,.slice lk.p r.parts.length lk.cp,.int .i64 r.cond.kind,.int .i64 r.cond.n,.string ⟨r.cond.name.toArray⟩,.string ⟨r.cond.op.toArray⟩,.slice lk.x r.cond.kids.length lk.cx,.slice lk.b r.body.length lk.cb,.slice lk.e r.els.length lk.ce,.slice lk.u r.rules.length lk.cu,.int .i64 r.pl],.agg #[.int .i64 r'.kind,.string ⟨r'.name.toArray⟩,.int .i64 r'.n,.slice lk'.p r'.parts.length lk'.cp,.int .i64 r'.cond.kind,.int .i64 r'.cond.n,.string ⟨r'.cond.name.toArray⟩,.string ⟨r'.cond.op.toArray⟩,.slice lk'.x r'.cond.kids.length lk'.cx,.slice lk'.b r'.body.length lk'.cb,.slice lk'.e r'.els.length lk'.ce,.slice lk'.u r'.rules.length lk'.cu,.int .i64 r'.pl]] w2 fun e w'=>e= .returned (.bool v2)∧Below w2.heap.size w2 w':=fun w2 h2=>by
     rw[hv2];exact HI.out r hmem r' lk lk' w2 (hkr.of (fun _ h=>(hb.trans (h2.mono hb.size)).cell h) fun _ h=>Nat.lt_of_lt_of_le h (hb.trans (h2.mono hb.size)).size) (hkr'.of (fun _ h=>(hb.trans (h2.mono hb.size)).cell h) fun _ h=>Nat.lt_of_lt_of_le h (hb.trans (h2.mono hb.size)).size) (HS.out r hmem) (HS'.out r' hmem')
    have HV2:=Lib.hid hv2;have HR:=Lib.hid (map_getX (f:=stC) hr);have HR':=Lib.hid (map_getX (f:=stC) hr');have hbt:(ad.add (j * 13)).block<wr.heap.size:=by rw[blockX_add];have:=hb.size;omega
    have hbt':(ad'.add (j * 13)).block<wr.heap.size:=by rw[blockX_add];have:=hb.size;omega
    clear hr hr' hv2 hkr hkr' hmem hmem';obtain⟨c0,c1,c2,c3,c4,c5,c6,c7,c8,c9,c10,c11,c12⟩:=h9.at13;obtain⟨d0,d1,d2,d3,d4,d5,d6,d7,d8,d9,d10,d11,d12⟩:=h9'.at13;have HKC:Hid (∀ o1 o2,Calls Tryz.prog 26 #[.agg #[.int .i64 r.kind,.string ⟨r.name.toArray⟩,.int .i64 r.n,.slice lk.p r.parts.length lk.cp,.int .i64 r.cond.kind,.int .i64 r.cond.n,.string ⟨r.cond.name.toArray⟩,.string ⟨r.cond.op.toArray⟩,.slice lk.x r.cond.kids.length lk.cx,.slice lk.b r.body.length lk.cb,.slice lk.e r.els.length lk.ce,.slice lk.u r.rules.length lk.cu,.int .i64 r.pl],.agg #[.int .i64 r'.kind,.string ⟨r'.name.toArray⟩,.int .i64 r'.n,.slice lk'.p r'.parts.length lk'.cp,.int .i64 r'.cond.kind,.int .i64 r'.cond.n,.string ⟨r'.cond.name.toArray⟩,.string ⟨r'.cond.op.toArray⟩,.slice lk'.x r'.cond.kids.length lk'.cx,.slice lk'.b r'.body.length lk'.cb,.slice lk'.e r'.els.length lk'.ce,.slice lk'.u r'.rules.length lk'.cu,.int .i64 r'.pl]] ((wr.alloc o1).alloc o2) fun e w'=>e= .returned (.bool v2)∧Below wr.heap.size wr w'):=Lib.hid fun o1 o2=>(K _ (two_boxesX wr o1 o2)).mono fun e w' ⟨he,h2⟩=>⟨he,(two_boxesX wr o1 o2).trans (h2.mono (by simp;omega))⟩
    clear K hb hp hp' h9 h9'
    cases v2 with
    | true=>
      have HX:Hid ((ks.map stC).take (j+1)=(ks2.map stC).take (j+1)):=Lib.hid (by
       have h8:=eqB_of HV2.out.symm;have h7:=HR.out;rw[h8] at h7;exact take_eqX HT.out h7 HR'.out)
      go_wp2_with (go_at_call 26;go_must ((with_reducible refine(HKC.out _ _).mono ?_);rintro e w4 ⟨rfl,hb4⟩))
      go_roundw
      case rel=>exact⟨j+1,by omega,by go_num,HX.out,HB.out.trans (hb4.mono HB.out.size)⟩
      case measure=>simp[intOf];omega
    | false=>
      have HX2:Hid (v=false):=Lib.hid (by rw[HV.out];exact eqB_no (not_eqX HR.out HR'.out (eqB_not HV2.out.symm)));go_wp2_with (go_at_call 26;go_must ((with_reducible refine(HKC.out _ _).mono ?_);rintro e w4 ⟨rfl,hb4⟩));go_ret;exact⟨ret_bool HX2.out.symm,HB.out.trans (hb4.mono HB.out.size)⟩
   ·have HX2:Hid (v=true):=Lib.hid (by
     rw[HV.out];have:=HT.out;rw[List.take_of_length_le (by rw[List.length_map];have:=HM.out;omega),List.take_of_length_le (by rw[List.length_map];have:=HM'.out;omega)] at this;exact eqB_yes this)
    clear hb;go_wp2;go_ret;exact⟨ret_bool HX2.out.symm,HB.out⟩
 ·have HX:Hid (v=false):=Lib.hid (by rw[HV.out];exact eqB_no (fun h=>f6 (by have:=congrArg List.length h;rw[List.length_map,List.length_map] at this;rw[HM.out,HM'.out,this])))
  have g6:((m:Int) != (m2:Int))=true:=by simp;omega
  have g7:(m != m2)=true:=by simp[f6]
  clear f6;go_enter Tryz.func25,Tryz.ntmps25;go_wp2;go_ret;exact⟨ret_bool HX.out.symm,Below.refl _ _⟩
theorem eqU_list (ks ks2:List Ru) (ih:∀ x∈ks,PR x) (A A':Option Addr) (c c':Nat) (w:World) (hk:RowU (LtX w.heap.size) w A ks) (hk':RowU (LtX w.heap.size) w A' ks2) (hs:∀ x∈ks,FitR x) (hs':∀ x∈ks2,FitR x) (hm9:ks.length≤1000000):
  Calls Tryz.prog 40 #[.slice A ks.length c,.slice A' ks2.length c',.func (.func 41) #[] #[]] w fun e w'=>e= .returned (.bool (eqB (ks.map stR) (ks2.map stR)))∧Below w.heap.size w w':=by
 obtain⟨v,hv⟩:∃ v,v=eqB (ks.map stR) (ks2.map stR):=⟨_,rfl⟩;rw[←hv];have HV:=Lib.hid hv;obtain⟨m,hm⟩:∃ m,m=ks.length:=⟨_,rfl⟩;obtain⟨m2,hm2⟩:∃ m,m=ks2.length:=⟨_,rfl⟩;rw[←hm] at hm9;rw[←hm,←hm2];have HK:=Lib.hid hk;have HK':=Lib.hid hk';have HI:=Lib.hid ih;have HS:=Lib.hid hs;have HS':=Lib.hid hs';have HM:=Lib.hid hm;have HM':=Lib.hid hm2;clear hv ih hk hk' hs hs' hm hm2;by_cases f6:m=m2
 ·have g6:((m:Int) != (m2:Int))=false:=by simp[f6]
  have g7:(m != m2)=false:=by simp[f6]
  subst f6;go_enter Tryz.func40,Tryz.ntmps40;go_wp2
  go_loopw [17] (fun i wr=>∃ j:Nat,j≤m∧i= .int .i64 j∧(ks.map stR).take j=(ks2.map stR).take j∧Below w.heap.size w wr) (fun i _=>m - (intOf i).toNat)
  case atStart=>exact⟨0,by omega,rfl,rfl,Below.refl _ _⟩
  case round=>
   obtain⟨j,hj,rfl,ht,hb⟩:=hrel;have HB:=Lib.hid hb;have HT:=Lib.hid ht;clear ht;by_cases a:j<m
   ·obtain⟨r,hr⟩:=getX_of_lt HM.out a
    obtain⟨r',hr'⟩:=getX_of_lt HM'.out a;obtain⟨ad,B,k,rfl,hp,h9,hkr⟩:=rowU_at HK.out hb hr;obtain⟨ad',B',k',rfl,hp',h9',hkr'⟩:=rowU_at HK'.out hb hr';have hmem:=List.mem_of_getElem? hr;have hmem':=List.mem_of_getElem? hr';obtain⟨v2,hv2⟩:∃ v2,v2=eqB (stR r) (stR r'):=⟨_,rfl⟩
    have K:∀ w2,Below wr.heap.size wr w2→Calls Tryz.prog 41 #[.agg #[.int .i64 r.kind,.int .i64 r.peer,.int .i64 r.pk,.string ⟨r.pt.toArray⟩,.slice B r.body.length k,.int .i64 r.pl],.agg #[.int .i64 r'.kind,.int .i64 r'.peer,.int .i64 r'.pk,.string ⟨r'.pt.toArray⟩,.slice B' r'.body.length k',.int .i64 r'.pl]] w2 fun e w'=>e= .returned (.bool v2)∧Below w2.heap.size w2 w':=fun w2 h2=>by
     rw[hv2];exact HI.out r hmem r' B B' k k' w2 (hkr.of (fun _ h=>(hb.trans (h2.mono hb.size)).cell h) fun _ h=>Nat.lt_of_lt_of_le h (hb.trans (h2.mono hb.size)).size) (hkr'.of (fun _ h=>(hb.trans (h2.mono hb.size)).cell h) fun _ h=>Nat.lt_of_lt_of_le h (hb.trans (h2.mono hb.size)).size) (HS.out r hmem) (HS'.out r' hmem')
    have HV2:=Lib.hid hv2;have HR:=Lib.hid (map_getX (f:=stR) hr);have HR':=Lib.hid (map_getX (f:=stR) hr');have hbt:(ad.add (j * 6)).block<wr.heap.size:=by rw[blockX_add];have:=hb.size;omega
    have hbt':(ad'.add (j * 6)).block<wr.heap.size:=by rw[blockX_add];have:=hb.size;omega
    clear hr hr' hv2 hkr hkr' hmem hmem';obtain⟨c0,c1,c2,c3,c4,c5⟩:=h9.at6;obtain⟨d0,d1,d2,d3,d4,d5⟩:=h9'.at6;have HKC:Hid (∀ o1 o2,Calls Tryz.prog 41 #[.agg #[.int .i64 r.kind,.int .i64 r.peer,.int .i64 r.pk,.string ⟨r.pt.toArray⟩,.slice B r.body.length k,.int .i64 r.pl],.agg #[.int .i64 r'.kind,.int .i64 r'.peer,.int .i64 r'.pk,.string ⟨r'.pt.toArray⟩,.slice B' r'.body.length k',.int .i64 r'.pl]] ((wr.alloc o1).alloc o2) fun e w'=>e= .returned (.bool v2)∧Below wr.heap.size wr w'):=Lib.hid fun o1 o2=>(K _ (two_boxesX wr o1 o2)).mono fun e w' ⟨he,h2⟩=>⟨he,(two_boxesX wr o1 o2).trans (h2.mono (by simp;omega))⟩
    clear K hb hp hp' h9 h9'
    cases v2 with
    | true=>
      have HX:Hid ((ks.map stR).take (j+1)=(ks2.map stR).take (j+1)):=Lib.hid (by
       have h8:=eqB_of HV2.out.symm;have h7:=HR.out;rw[h8] at h7;exact take_eqX HT.out h7 HR'.out)
      go_wp2_with (go_at_call 41;go_must ((with_reducible refine(HKC.out _ _).mono ?_);rintro e w4 ⟨rfl,hb4⟩))
      go_roundw
      case rel=>exact⟨j+1,by omega,by go_num,HX.out,HB.out.trans (hb4.mono HB.out.size)⟩
      case measure=>simp[intOf];omega
    | false=>
      have HX2:Hid (v=false):=Lib.hid (by rw[HV.out];exact eqB_no (not_eqX HR.out HR'.out (eqB_not HV2.out.symm)));go_wp2_with (go_at_call 41;go_must ((with_reducible refine(HKC.out _ _).mono ?_);rintro e w4 ⟨rfl,hb4⟩));go_ret;exact⟨ret_bool HX2.out.symm,HB.out.trans (hb4.mono HB.out.size)⟩
   ·have HX2:Hid (v=true):=Lib.hid (by
     rw[HV.out];have:=HT.out;rw[List.take_of_length_le (by rw[List.length_map];have:=HM.out;omega),List.take_of_length_le (by rw[List.length_map];have:=HM'.out;omega)] at this;exact eqB_yes this)
    clear hb;go_wp2;go_ret;exact⟨ret_bool HX2.out.symm,HB.out⟩
 ·have HX:Hid (v=false):=Lib.hid (by rw[HV.out];exact eqB_no (fun h=>f6 (by have:=congrArg List.length h;rw[List.length_map,List.length_map] at this;rw[HM.out,HM'.out,this])))
  have g6:((m:Int) != (m2:Int))=true:=by simp;omega
  have g7:(m != m2)=true:=by simp[f6]
  clear f6;go_enter Tryz.func40,Tryz.ntmps40;go_wp2;go_ret;exact⟨ret_bool HX.out.symm,Below.refl _ _⟩
theorem same_list (b b2:List Cm) (ih:∀ x∈b,PC x) (A A':Option Addr) (c c':Nat) (w:World) (hk:RowC (LtX w.heap.size) w A b) (hk':RowC (LtX w.heap.size) w A' b2) (hs:∀ x∈b,FitC x) (hs':∀ x∈b2,FitC x) (hm:b.length≤1000000):
  Calls Tryz.prog 12 #[.slice A b.length c,.slice A' b2.length c'] w fun e w'=>e= .returned (.bool (eqB (b.map stC) (b2.map stC)))∧Below w.heap.size w w':=by
 have K:=Lib.hid (eqC_list b b2 ih A A' c c' w hk hk' hs hs' hm);generalize eqB (b.map stC) (b2.map stC)=v at K ⊢;generalize b.length=m at K ⊢;generalize b2.length=m2 at K ⊢;clear ih hk hk' hs hs' hm;go_enter Tryz.func12,Tryz.ntmps12;go_wp2_with (go_at_call 25;go_must ((with_reducible refine(K.out).mono ?_);rintro e w4 ⟨rfl,hb4⟩));go_ret;exact⟨rfl,hb4⟩
theorem pr_step (k q pk:Int) (pt:Bs) (b:List Cm) (p:Int) (ih:∀ x∈b,PC x):PR (.mk k q pk pt b p):=by
 intro y A A' c c' w hk hk' hf hf';obtain⟨k2,q2,pk2,pt2,b2,p2⟩:=y;rw[kidR_eq] at hk hk';obtain⟨v,hv⟩:∃ v,v=eqB (stR (.mk k q pk pt b p)) (stR (.mk k2 q2 pk2 pt2 b2 p2)):=⟨_,rfl⟩;rw[←hv];have HV:Hid (∀ u,(v=u) ↔ (eqB (stR (.mk k q pk pt b p)) (stR (.mk k2 q2 pk2 pt2 b2 p2))=u)):=Lib.hid fun u=>by rw[hv]
 cases hf with
 | mk hf1 hf2 hf3=>
 cases hf' with
 | mk hg1 hg2 hg3=>
 have KE:Hid (∀ w',Below w.heap.size w w'→Calls Tryz.prog 12 #[.slice A b.length c,.slice A' b2.length c'] w' fun e w2=>e= .returned (.bool (eqB (b.map stC) (b2.map stC)))∧Below w'.heap.size w' w2):=Lib.hid fun w' hb=>
  same_list b b2 ih A A' c c' w' (hk.next hb) (hk'.next hb) hf3 hg3 hf2
 show Calls _ _ #[.agg #[.int .i64 k,.int .i64 q,.int .i64 pk,.string ⟨pt.toArray⟩,.slice A b.length c,.int .i64 p],.agg #[.int .i64 k2,.int .i64 q2,.int .i64 pk2,.string ⟨pt2.toArray⟩,.slice A' b2.length c',.int .i64 p2]] _ _;obtain⟨X,hX⟩:∃ X:ByteArray,X=⟨pt.toArray⟩:=⟨_,rfl⟩;obtain⟨X2,hX2⟩:∃ X:ByteArray,X=⟨pt2.toArray⟩:=⟨_,rfl⟩;have gx:=nameX_eq hX hX2;obtain⟨u,hu⟩:∃ u,u=eqB (b.map stC) (b2.map stC):=⟨_,rfl⟩;rw[←hu] at KE;have HU:=Lib.hid hu;rw[←hX,←hX2];have hP:=eqlP_any pk pk2 X X2;generalize b.length=m at KE ⊢;generalize b2.length=m2 at KE ⊢;clear hv ih hk hk' hf1 hf2 hf3 hg1 hg2 hg3 hX hX2 hu;by_cases f1:k=k2
 ·have g1:(k==k2)=true:=by simp[f1]
  by_cases f2:q=q2
  ·have g2:(q==q2)=true:=by simp[f2]
   by_cases f3:pk=pk2∧pt=pt2
   ·have g3:(pk==pk2 && X.toList==X2.toList)=true:=by rw[gx,eqB_yes f3.2,f3.1];simp
    rw[g3] at hP
    have HX:Hid (v=u):=Lib.hid (by
     rw[HU.out];refine(HV.out _).2 ?_;by_cases h:b.map stC=b2.map stC
     ·rw[eqB_yes h,eqB_yes (stR_eq.2 ⟨f1,f2,f3,h⟩)]
     ·rw[eqB_no h,eqB_no (fun e=>h (stR_eq.1 e).2.2.2)])
    clear f1 f2 f3 g3 gx HU HV;go_enter Tryz.func41,Tryz.ntmps41;go_wp2_with (go_at_call 12;go_must ((with_reducible refine(KE.out _ (two_boxesX w _ _)).mono ?_);rintro e w4 ⟨rfl,hb4⟩));go_ret;exact⟨ret_bool HX.out.symm,(two_boxesX w _ _).trans (hb4.mono (by simp;omega))⟩
   ·have g3:(pk==pk2 && X.toList==X2.toList)=false:=by
     rw[gx];by_cases h:pk=pk2
     ·rw[eqB_no (fun e=>f3 ⟨h,e⟩)];simp
     ·simp[h]
    rw[g3] at hP;have HX:Hid (v=false):=Lib.hid ((HV.out _).2 (eqB_no (fun h=>f3 (stR_eq.1 h).2.2.1)));clear f1 f2 f3 g3 gx HU HV;go_enter Tryz.func41,Tryz.ntmps41;go_wp2;go_ret;exact⟨ret_bool HX.out.symm,two_boxesX _ _ _⟩
  ·have g2:(q==q2)=false:=by simp[f2]
   have HX:Hid (v=false):=Lib.hid ((HV.out _).2 (eqB_no (fun h=>f2 (stR_eq.1 h).2.1)));clear f1 f2 gx HU HV hP;go_enter Tryz.func41,Tryz.ntmps41;go_wp2;go_ret;exact⟨ret_bool HX.out.symm,two_boxesX _ _ _⟩
 ·have g1:(k==k2)=false:=by simp[f1]
  have HX:Hid (v=false):=Lib.hid ((HV.out _).2 (eqB_no (fun h=>f1 (stR_eq.1 h).1)));clear f1 gx HU HV hP;go_enter Tryz.func41,Tryz.ntmps41;go_wp2;go_ret;exact⟨ret_bool HX.out.symm,two_boxesX _ _ _⟩
theorem pc_walk1f (k n p k2 n2 p2:Int) (X X2:ByteArray) (x x2:Ex) (m1 m2 m3 m4 m1' m2' m3' m4':Nat) (lk lk':Lk) (w:World)
  (g1:(k==k2)=false):
  Calls Tryz.prog 26 #[.agg #[.int .i64 k,.string X,.int .i64 n,.slice lk.p m1 lk.cp,.int .i64 x.kind,.int .i64 x.n,.string ⟨x.name.toArray⟩,.string ⟨x.op.toArray⟩,.slice lk.x x.kids.length lk.cx,.slice lk.b m2 lk.cb,.slice lk.e m3 lk.ce,.slice lk.u m4 lk.cu,.int .i64 p],.agg #[.int .i64 k2,.string X2,.int .i64 n2,.slice lk'.p m1' lk'.cp,.int .i64 x2.kind,.int .i64 x2.n,.string ⟨x2.name.toArray⟩,.string ⟨x2.op.toArray⟩,.slice lk'.x x2.kids.length lk'.cx,.slice lk'.b m2' lk'.cb,.slice lk'.e m3' lk'.ce,.slice lk'.u m4' lk'.cu,.int .i64 p2]] w fun e w'=>e= .returned (.bool false)∧Below w.heap.size w w':=by
 go_enter Tryz.func26,Tryz.ntmps26;go_wp2;go_ret;exact⟨rfl,two_boxesX _ _ _⟩
theorem pc_walk2f (k n p k2 n2 p2:Int) (X X2:ByteArray) (x x2:Ex) (m1 m2 m3 m4 m1' m2' m3' m4':Nat) (lk lk':Lk) (w:World)
  (g1:(k==k2)=true) (g2:(X.toList==X2.toList)=false):
  Calls Tryz.prog 26 #[.agg #[.int .i64 k,.string X,.int .i64 n,.slice lk.p m1 lk.cp,.int .i64 x.kind,.int .i64 x.n,.string ⟨x.name.toArray⟩,.string ⟨x.op.toArray⟩,.slice lk.x x.kids.length lk.cx,.slice lk.b m2 lk.cb,.slice lk.e m3 lk.ce,.slice lk.u m4 lk.cu,.int .i64 p],.agg #[.int .i64 k2,.string X2,.int .i64 n2,.slice lk'.p m1' lk'.cp,.int .i64 x2.kind,.int .i64 x2.n,.string ⟨x2.name.toArray⟩,.string ⟨x2.op.toArray⟩,.slice lk'.x x2.kids.length lk'.cx,.slice lk'.b m2' lk'.cb,.slice lk'.e m3' lk'.ce,.slice lk'.u m4' lk'.cu,.int .i64 p2]] w fun e w'=>e= .returned (.bool false)∧Below w.heap.size w w':=by
 go_enter Tryz.func26,Tryz.ntmps26;go_wp2;go_ret;exact⟨rfl,two_boxesX _ _ _⟩
theorem pc_walk3f (k n p k2 n2 p2:Int) (X X2:ByteArray) (x x2:Ex) (m1 m2 m3 m4 m1' m2' m3' m4':Nat) (lk lk':Lk) (w:World)
  (g1:(k==k2)=true) (g2:(X.toList==X2.toList)=true) (g3:(n==n2)=false):
  Calls Tryz.prog 26 #[.agg #[.int .i64 k,.string X,.int .i64 n,.slice lk.p m1 lk.cp,.int .i64 x.kind,.int .i64 x.n,.string ⟨x.name.toArray⟩,.string ⟨x.op.toArray⟩,.slice lk.x x.kids.length lk.cx,.slice lk.b m2 lk.cb,.slice lk.e m3 lk.ce,.slice lk.u m4 lk.cu,.int .i64 p],.agg #[.int .i64 k2,.string X2,.int .i64 n2,.slice lk'.p m1' lk'.cp,.int .i64 x2.kind,.int .i64 x2.n,.string ⟨x2.name.toArray⟩,.string ⟨x2.op.toArray⟩,.slice lk'.x x2.kids.length lk'.cx,.slice lk'.b m2' lk'.cb,.slice lk'.e m3' lk'.ce,.slice lk'.u m4' lk'.cu,.int .i64 p2]] w fun e w'=>e= .returned (.bool false)∧Below w.heap.size w w':=by
 go_enter Tryz.func26,Tryz.ntmps26;go_wp2;go_ret;exact⟨rfl,two_boxesX _ _ _⟩
theorem pc_walk4f (k n p k2 n2 p2:Int) (X X2:ByteArray) (x x2:Ex) (m1 m2 m3 m4 m1' m2' m3' m4':Nat) (lk lk':Lk) (w:World)
  (g1:(k==k2)=true) (g2:(X.toList==X2.toList)=true) (g3:(n==n2)=true) (K4:Hid (∀ w',Below w.heap.size w w'→Calls Tryz.prog 38 #[.slice lk.p m1 lk.cp,.slice lk'.p m1' lk'.cp] w' fun e w2=>e= .returned (.bool false)∧Below w'.heap.size w' w2)):
  Calls Tryz.prog 26 #[.agg #[.int .i64 k,.string X,.int .i64 n,.slice lk.p m1 lk.cp,.int .i64 x.kind,.int .i64 x.n,.string ⟨x.name.toArray⟩,.string ⟨x.op.toArray⟩,.slice lk.x x.kids.length lk.cx,.slice lk.b m2 lk.cb,.slice lk.e m3 lk.ce,.slice lk.u m4 lk.cu,.int .i64 p],.agg #[.int .i64 k2,.string X2,.int .i64 n2,.slice lk'.p m1' lk'.cp,.int .i64 x2.kind,.int .i64 x2.n,.string ⟨x2.name.toArray⟩,.string ⟨x2.op.toArray⟩,.slice lk'.x x2.kids.length lk'.cx,.slice lk'.b m2' lk'.cb,.slice lk'.e m3' lk'.ce,.slice lk'.u m4' lk'.cu,.int .i64 p2]] w fun e w'=>e= .returned (.bool false)∧Below w.heap.size w w':=by
 have HBX:Hid (∀ W',Below ((w.alloc (.cells #[.int .i64 k,.string X,.int .i64 n,.slice lk.p m1 lk.cp,.int .i64 x.kind,.int .i64 x.n,.string ⟨x.name.toArray⟩,.string ⟨x.op.toArray⟩,.slice lk.x x.kids.length lk.cx,.slice lk.b m2 lk.cb,.slice lk.e m3 lk.ce,.slice lk.u m4 lk.cu,.int .i64 p] 41)).alloc (.cells #[.int .i64 k2,.string X2,.int .i64 n2,.slice lk'.p m1' lk'.cp,.int .i64 x2.kind,.int .i64 x2.n,.string ⟨x2.name.toArray⟩,.string ⟨x2.op.toArray⟩,.slice lk'.x x2.kids.length lk'.cx,.slice lk'.b m2' lk'.cb,.slice lk'.e m3' lk'.ce,.slice lk'.u m4' lk'.cu,.int .i64 p2] 41)).heap.size ((w.alloc (.cells #[.int .i64 k,.string X,.int .i64 n,.slice lk.p m1 lk.cp,.int .i64 x.kind,.int .i64 x.n,.string ⟨x.name.toArray⟩,.string ⟨x.op.toArray⟩,.slice lk.x x.kids.length lk.cx,.slice lk.b m2 lk.cb,.slice lk.e m3 lk.ce,.slice lk.u m4 lk.cu,.int .i64 p] 41)).alloc (.cells #[.int .i64 k2,.string X2,.int .i64 n2,.slice lk'.p m1' lk'.cp,.int .i64 x2.kind,.int .i64 x2.n,.string ⟨x2.name.toArray⟩,.string ⟨x2.op.toArray⟩,.slice lk'.x x2.kids.length lk'.cx,.slice lk'.b m2' lk'.cb,.slice lk'.e m3' lk'.ce,.slice lk'.u m4' lk'.cu,.int .i64 p2] 41)) W'→BoxL W' w.heap.size [.int .i64 k,.string X,.int .i64 n,.slice lk.p m1 lk.cp,.int .i64 x.kind,.int .i64 x.n,.string ⟨x.name.toArray⟩,.string ⟨x.op.toArray⟩,.slice lk.x x.kids.length lk.cx,.slice lk.b m2 lk.cb,.slice lk.e m3 lk.ce,.slice lk.u m4 lk.cu,.int .i64 p]∧BoxL W' (w.heap.size+1) [.int .i64 k2,.string X2,.int .i64 n2,.slice lk'.p m1' lk'.cp,.int .i64 x2.kind,.int .i64 x2.n,.string ⟨x2.name.toArray⟩,.string ⟨x2.op.toArray⟩,.slice lk'.x x2.kids.length lk'.cx,.slice lk'.b m2' lk'.cb,.slice lk'.e m3' lk'.ce,.slice lk'.u m4' lk'.cu,.int .i64 p2]):=Lib.hid fun W' hb=>by
  have h1:=BoxL.new w 41 [.int .i64 k,.string X,.int .i64 n,.slice lk.p m1 lk.cp,.int .i64 x.kind,.int .i64 x.n,.string ⟨x.name.toArray⟩,.string ⟨x.op.toArray⟩,.slice lk.x x.kids.length lk.cx,.slice lk.b m2 lk.cb,.slice lk.e m3 lk.ce,.slice lk.u m4 lk.cu,.int .i64 p];have h2:=BoxL.new (w.alloc (.cells #[.int .i64 k,.string X,.int .i64 n,.slice lk.p m1 lk.cp,.int .i64 x.kind,.int .i64 x.n,.string ⟨x.name.toArray⟩,.string ⟨x.op.toArray⟩,.slice lk.x x.kids.length lk.cx,.slice lk.b m2 lk.cb,.slice lk.e m3 lk.ce,.slice lk.u m4 lk.cu,.int .i64 p] 41)) 41 [.int .i64 k2,.string X2,.int .i64 n2,.slice lk'.p m1' lk'.cp,.int .i64 x2.kind,.int .i64 x2.n,.string ⟨x2.name.toArray⟩,.string ⟨x2.op.toArray⟩,.slice lk'.x x2.kids.length lk'.cx,.slice lk'.b m2' lk'.cb,.slice lk'.e m3' lk'.ce,.slice lk'.u m4' lk'.cu,.int .i64 p2];rw[size_allocX] at h2;exact⟨(h1.low (by simp) (one_boxX _ _)).low (by simp) hb,h2.low (by simp) hb⟩
 go_enter Tryz.func26,Tryz.ntmps26;go_wp2_with (first | (go_at_call 38;go_must ((with_reducible refine(K4.out _ (two_boxesX w _ _)).mono ?_);rintro e v4 ⟨rfl,hb4⟩;have HT4:=Lib.hid hb4;clear hb4)));go_ret;exact⟨rfl,(two_boxesX w _ _).trans (HT4.out.mono (by simp;omega))⟩
theorem pc_walk5f (k n p k2 n2 p2:Int) (X X2:ByteArray) (x x2:Ex) (m1 m2 m3 m4 m1' m2' m3' m4':Nat) (lk lk':Lk) (w:World)
  (g1:(k==k2)=true) (g2:(X.toList==X2.toList)=true) (g3:(n==n2)=true) (K4:Hid (∀ w',Below w.heap.size w w'→Calls Tryz.prog 38 #[.slice lk.p m1 lk.cp,.slice lk'.p m1' lk'.cp] w' fun e w2=>e= .returned (.bool true)∧Below w'.heap.size w' w2)) (K5:Hid (∀ w',Below w.heap.size w w'→Calls Tryz.prog 39 #[.agg #[.int .i64 x.kind,.int .i64 x.n,.string ⟨x.name.toArray⟩,.string ⟨x.op.toArray⟩,.slice lk.x x.kids.length lk.cx],.agg #[.int .i64 x2.kind,.int .i64 x2.n,.string ⟨x2.name.toArray⟩,.string ⟨x2.op.toArray⟩,.slice lk'.x x2.kids.length lk'.cx]] w' fun e w2=>e= .returned (.bool false)∧Below w'.heap.size w' w2)):
  Calls Tryz.prog 26 #[.agg #[.int .i64 k,.string X,.int .i64 n,.slice lk.p m1 lk.cp,.int .i64 x.kind,.int .i64 x.n,.string ⟨x.name.toArray⟩,.string ⟨x.op.toArray⟩,.slice lk.x x.kids.length lk.cx,.slice lk.b m2 lk.cb,.slice lk.e m3 lk.ce,.slice lk.u m4 lk.cu,.int .i64 p],.agg #[.int .i64 k2,.string X2,.int .i64 n2,.slice lk'.p m1' lk'.cp,.int .i64 x2.kind,.int .i64 x2.n,.string ⟨x2.name.toArray⟩,.string ⟨x2.op.toArray⟩,.slice lk'.x x2.kids.length lk'.cx,.slice lk'.b m2' lk'.cb,.slice lk'.e m3' lk'.ce,.slice lk'.u m4' lk'.cu,.int .i64 p2]] w fun e w'=>e= .returned (.bool false)∧Below w.heap.size w w':=by
 have HBX:Hid (∀ W',Below ((w.alloc (.cells #[.int .i64 k,.string X,.int .i64 n,.slice lk.p m1 lk.cp,.int .i64 x.kind,.int .i64 x.n,.string ⟨x.name.toArray⟩,.string ⟨x.op.toArray⟩,.slice lk.x x.kids.length lk.cx,.slice lk.b m2 lk.cb,.slice lk.e m3 lk.ce,.slice lk.u m4 lk.cu,.int .i64 p] 41)).alloc (.cells #[.int .i64 k2,.string X2,.int .i64 n2,.slice lk'.p m1' lk'.cp,.int .i64 x2.kind,.int .i64 x2.n,.string ⟨x2.name.toArray⟩,.string ⟨x2.op.toArray⟩,.slice lk'.x x2.kids.length lk'.cx,.slice lk'.b m2' lk'.cb,.slice lk'.e m3' lk'.ce,.slice lk'.u m4' lk'.cu,.int .i64 p2] 41)).heap.size ((w.alloc (.cells #[.int .i64 k,.string X,.int .i64 n,.slice lk.p m1 lk.cp,.int .i64 x.kind,.int .i64 x.n,.string ⟨x.name.toArray⟩,.string ⟨x.op.toArray⟩,.slice lk.x x.kids.length lk.cx,.slice lk.b m2 lk.cb,.slice lk.e m3 lk.ce,.slice lk.u m4 lk.cu,.int .i64 p] 41)).alloc (.cells #[.int .i64 k2,.string X2,.int .i64 n2,.slice lk'.p m1' lk'.cp,.int .i64 x2.kind,.int .i64 x2.n,.string ⟨x2.name.toArray⟩,.string ⟨x2.op.toArray⟩,.slice lk'.x x2.kids.length lk'.cx,.slice lk'.b m2' lk'.cb,.slice lk'.e m3' lk'.ce,.slice lk'.u m4' lk'.cu,.int .i64 p2] 41)) W'→BoxL W' w.heap.size [.int .i64 k,.string X,.int .i64 n,.slice lk.p m1 lk.cp,.int .i64 x.kind,.int .i64 x.n,.string ⟨x.name.toArray⟩,.string ⟨x.op.toArray⟩,.slice lk.x x.kids.length lk.cx,.slice lk.b m2 lk.cb,.slice lk.e m3 lk.ce,.slice lk.u m4 lk.cu,.int .i64 p]∧BoxL W' (w.heap.size+1) [.int .i64 k2,.string X2,.int .i64 n2,.slice lk'.p m1' lk'.cp,.int .i64 x2.kind,.int .i64 x2.n,.string ⟨x2.name.toArray⟩,.string ⟨x2.op.toArray⟩,.slice lk'.x x2.kids.length lk'.cx,.slice lk'.b m2' lk'.cb,.slice lk'.e m3' lk'.ce,.slice lk'.u m4' lk'.cu,.int .i64 p2]):=Lib.hid fun W' hb=>by
  have h1:=BoxL.new w 41 [.int .i64 k,.string X,.int .i64 n,.slice lk.p m1 lk.cp,.int .i64 x.kind,.int .i64 x.n,.string ⟨x.name.toArray⟩,.string ⟨x.op.toArray⟩,.slice lk.x x.kids.length lk.cx,.slice lk.b m2 lk.cb,.slice lk.e m3 lk.ce,.slice lk.u m4 lk.cu,.int .i64 p];have h2:=BoxL.new (w.alloc (.cells #[.int .i64 k,.string X,.int .i64 n,.slice lk.p m1 lk.cp,.int .i64 x.kind,.int .i64 x.n,.string ⟨x.name.toArray⟩,.string ⟨x.op.toArray⟩,.slice lk.x x.kids.length lk.cx,.slice lk.b m2 lk.cb,.slice lk.e m3 lk.ce,.slice lk.u m4 lk.cu,.int .i64 p] 41)) 41 [.int .i64 k2,.string X2,.int .i64 n2,.slice lk'.p m1' lk'.cp,.int .i64 x2.kind,.int .i64 x2.n,.string ⟨x2.name.toArray⟩,.string ⟨x2.op.toArray⟩,.slice lk'.x x2.kids.length lk'.cx,.slice lk'.b m2' lk'.cb,.slice lk'.e m3' lk'.ce,.slice lk'.u m4' lk'.cu,.int .i64 p2];rw[size_allocX] at h2;exact⟨(h1.low (by simp) (one_boxX _ _)).low (by simp) hb,h2.low (by simp) hb⟩
 go_enter Tryz.func26,Tryz.ntmps26;go_wp2_with (first | (go_at_call 38;go_must ((with_reducible refine(K4.out _ (two_boxesX w _ _)).mono ?_);rintro e v4 ⟨rfl,hb4⟩;have HT4:=Lib.hid hb4;clear hb4;obtain⟨u1,u2⟩:=HBX.out _ HT4.out;obtain⟨c0,c1,c2,c3,c4,c5,c6,c7,c8,c9,c10,c11,c12⟩:=u1.all13;obtain⟨d0,d1,d2,d3,d4,d5,d6,d7,d8,d9,d10,d11,d12⟩:=u2.all13;clear u1 u2 c0 c1 c2 c12 d0 d1 d2 d12)) | (go_at_call 39;go_must ((with_reducible refine(K5.out _ ((two_boxesX w _ _).trans (HT4.out.mono (by simp;omega)))).mono ?_);rintro e v5 ⟨rfl,hb5⟩;have HT5:=Lib.hid (HT4.out.trans (hb5.mono HT4.out.size));clear hb5)));go_ret;exact⟨rfl,(two_boxesX w _ _).trans (HT5.out.mono (by simp;omega))⟩
theorem pc_walk6f (k n p k2 n2 p2:Int) (X X2:ByteArray) (x x2:Ex) (m1 m2 m3 m4 m1' m2' m3' m4':Nat) (lk lk':Lk) (w:World)
  (g1:(k==k2)=true) (g2:(X.toList==X2.toList)=true) (g3:(n==n2)=true) (K4:Hid (∀ w',Below w.heap.size w w'→Calls Tryz.prog 38 #[.slice lk.p m1 lk.cp,.slice lk'.p m1' lk'.cp] w' fun e w2=>e= .returned (.bool true)∧Below w'.heap.size w' w2)) (K5:Hid (∀ w',Below w.heap.size w w'→Calls Tryz.prog 39 #[.agg #[.int .i64 x.kind,.int .i64 x.n,.string ⟨x.name.toArray⟩,.string ⟨x.op.toArray⟩,.slice lk.x x.kids.length lk.cx],.agg #[.int .i64 x2.kind,.int .i64 x2.n,.string ⟨x2.name.toArray⟩,.string ⟨x2.op.toArray⟩,.slice lk'.x x2.kids.length lk'.cx]] w' fun e w2=>e= .returned (.bool true)∧Below w'.heap.size w' w2)) (K6:Hid (∀ w',Below w.heap.size w w'→Calls Tryz.prog 12 #[.slice lk.b m2 lk.cb,.slice lk'.b m2' lk'.cb] w' fun e w2=>e= .returned (.bool false)∧Below w'.heap.size w' w2)):
  Calls Tryz.prog 26 #[.agg #[.int .i64 k,.string X,.int .i64 n,.slice lk.p m1 lk.cp,.int .i64 x.kind,.int .i64 x.n,.string ⟨x.name.toArray⟩,.string ⟨x.op.toArray⟩,.slice lk.x x.kids.length lk.cx,.slice lk.b m2 lk.cb,.slice lk.e m3 lk.ce,.slice lk.u m4 lk.cu,.int .i64 p],.agg #[.int .i64 k2,.string X2,.int .i64 n2,.slice lk'.p m1' lk'.cp,.int .i64 x2.kind,.int .i64 x2.n,.string ⟨x2.name.toArray⟩,.string ⟨x2.op.toArray⟩,.slice lk'.x x2.kids.length lk'.cx,.slice lk'.b m2' lk'.cb,.slice lk'.e m3' lk'.ce,.slice lk'.u m4' lk'.cu,.int .i64 p2]] w fun e w'=>e= .returned (.bool false)∧Below w.heap.size w w':=by
 have HBX:Hid (∀ W',Below ((w.alloc (.cells #[.int .i64 k,.string X,.int .i64 n,.slice lk.p m1 lk.cp,.int .i64 x.kind,.int .i64 x.n,.string ⟨x.name.toArray⟩,.string ⟨x.op.toArray⟩,.slice lk.x x.kids.length lk.cx,.slice lk.b m2 lk.cb,.slice lk.e m3 lk.ce,.slice lk.u m4 lk.cu,.int .i64 p] 41)).alloc (.cells #[.int .i64 k2,.string X2,.int .i64 n2,.slice lk'.p m1' lk'.cp,.int .i64 x2.kind,.int .i64 x2.n,.string ⟨x2.name.toArray⟩,.string ⟨x2.op.toArray⟩,.slice lk'.x x2.kids.length lk'.cx,.slice lk'.b m2' lk'.cb,.slice lk'.e m3' lk'.ce,.slice lk'.u m4' lk'.cu,.int .i64 p2] 41)).heap.size ((w.alloc (.cells #[.int .i64 k,.string X,.int .i64 n,.slice lk.p m1 lk.cp,.int .i64 x.kind,.int .i64 x.n,.string ⟨x.name.toArray⟩,.string ⟨x.op.toArray⟩,.slice lk.x x.kids.length lk.cx,.slice lk.b m2 lk.cb,.slice lk.e m3 lk.ce,.slice lk.u m4 lk.cu,.int .i64 p] 41)).alloc (.cells #[.int .i64 k2,.string X2,.int .i64 n2,.slice lk'.p m1' lk'.cp,.int .i64 x2.kind,.int .i64 x2.n,.string ⟨x2.name.toArray⟩,.string ⟨x2.op.toArray⟩,.slice lk'.x x2.kids.length lk'.cx,.slice lk'.b m2' lk'.cb,.slice lk'.e m3' lk'.ce,.slice lk'.u m4' lk'.cu,.int .i64 p2] 41)) W'→BoxL W' w.heap.size [.int .i64 k,.string X,.int .i64 n,.slice lk.p m1 lk.cp,.int .i64 x.kind,.int .i64 x.n,.string ⟨x.name.toArray⟩,.string ⟨x.op.toArray⟩,.slice lk.x x.kids.length lk.cx,.slice lk.b m2 lk.cb,.slice lk.e m3 lk.ce,.slice lk.u m4 lk.cu,.int .i64 p]∧BoxL W' (w.heap.size+1) [.int .i64 k2,.string X2,.int .i64 n2,.slice lk'.p m1' lk'.cp,.int .i64 x2.kind,.int .i64 x2.n,.string ⟨x2.name.toArray⟩,.string ⟨x2.op.toArray⟩,.slice lk'.x x2.kids.length lk'.cx,.slice lk'.b m2' lk'.cb,.slice lk'.e m3' lk'.ce,.slice lk'.u m4' lk'.cu,.int .i64 p2]):=Lib.hid fun W' hb=>by
  have h1:=BoxL.new w 41 [.int .i64 k,.string X,.int .i64 n,.slice lk.p m1 lk.cp,.int .i64 x.kind,.int .i64 x.n,.string ⟨x.name.toArray⟩,.string ⟨x.op.toArray⟩,.slice lk.x x.kids.length lk.cx,.slice lk.b m2 lk.cb,.slice lk.e m3 lk.ce,.slice lk.u m4 lk.cu,.int .i64 p];have h2:=BoxL.new (w.alloc (.cells #[.int .i64 k,.string X,.int .i64 n,.slice lk.p m1 lk.cp,.int .i64 x.kind,.int .i64 x.n,.string ⟨x.name.toArray⟩,.string ⟨x.op.toArray⟩,.slice lk.x x.kids.length lk.cx,.slice lk.b m2 lk.cb,.slice lk.e m3 lk.ce,.slice lk.u m4 lk.cu,.int .i64 p] 41)) 41 [.int .i64 k2,.string X2,.int .i64 n2,.slice lk'.p m1' lk'.cp,.int .i64 x2.kind,.int .i64 x2.n,.string ⟨x2.name.toArray⟩,.string ⟨x2.op.toArray⟩,.slice lk'.x x2.kids.length lk'.cx,.slice lk'.b m2' lk'.cb,.slice lk'.e m3' lk'.ce,.slice lk'.u m4' lk'.cu,.int .i64 p2];rw[size_allocX] at h2;exact⟨(h1.low (by simp) (one_boxX _ _)).low (by simp) hb,h2.low (by simp) hb⟩
 go_enter Tryz.func26,Tryz.ntmps26;go_wp2_with (first | (go_at_call 38;go_must ((with_reducible refine(K4.out _ (two_boxesX w _ _)).mono ?_);rintro e v4 ⟨rfl,hb4⟩;have HT4:=Lib.hid hb4;clear hb4;obtain⟨u1,u2⟩:=HBX.out _ HT4.out;obtain⟨c0,c1,c2,c3,c4,c5,c6,c7,c8,c9,c10,c11,c12⟩:=u1.all13;obtain⟨d0,d1,d2,d3,d4,d5,d6,d7,d8,d9,d10,d11,d12⟩:=u2.all13;clear u1 u2 c0 c1 c2 c12 d0 d1 d2 d12)) | (go_at_call 39;go_must ((with_reducible refine(K5.out _ ((two_boxesX w _ _).trans (HT4.out.mono (by simp;omega)))).mono ?_);rintro e v5 ⟨rfl,hb5⟩;have HT5:=Lib.hid (HT4.out.trans (hb5.mono HT4.out.size));clear hb5;obtain⟨u1,u2⟩:=HBX.out _ HT5.out;obtain⟨c0,c1,c2,c3,c4,c5,c6,c7,c8,c9,c10,c11,c12⟩:=u1.all13;obtain⟨d0,d1,d2,d3,d4,d5,d6,d7,d8,d9,d10,d11,d12⟩:=u2.all13;clear u1 u2 c0 c1 c2 c12 d0 d1 d2 d12)) | (go_at_call 12;go_must ((with_reducible refine(K6.out _ ((two_boxesX w _ _).trans (HT5.out.mono (by simp;omega)))).mono ?_);rintro e v6 ⟨rfl,hb6⟩;have HT6:=Lib.hid (HT5.out.trans (hb6.mono HT5.out.size));clear hb6)));go_ret;exact⟨rfl,(two_boxesX w _ _).trans (HT6.out.mono (by simp;omega))⟩
theorem pc_walk7f (k n p k2 n2 p2:Int) (X X2:ByteArray) (x x2:Ex) (m1 m2 m3 m4 m1' m2' m3' m4':Nat) (lk lk':Lk) (w:World)
  (g1:(k==k2)=true) (g2:(X.toList==X2.toList)=true) (g3:(n==n2)=true) (K4:Hid (∀ w',Below w.heap.size w w'→Calls Tryz.prog 38 #[.slice lk.p m1 lk.cp,.slice lk'.p m1' lk'.cp] w' fun e w2=>e= .returned (.bool true)∧Below w'.heap.size w' w2)) (K5:Hid (∀ w',Below w.heap.size w w'→Calls Tryz.prog 39 #[.agg #[.int .i64 x.kind,.int .i64 x.n,.string ⟨x.name.toArray⟩,.string ⟨x.op.toArray⟩,.slice lk.x x.kids.length lk.cx],.agg #[.int .i64 x2.kind,.int .i64 x2.n,.string ⟨x2.name.toArray⟩,.string ⟨x2.op.toArray⟩,.slice lk'.x x2.kids.length lk'.cx]] w' fun e w2=>e= .returned (.bool true)∧Below w'.heap.size w' w2)) (K6:Hid (∀ w',Below w.heap.size w w'→Calls Tryz.prog 12 #[.slice lk.b m2 lk.cb,.slice lk'.b m2' lk'.cb] w' fun e w2=>e= .returned (.bool true)∧Below w'.heap.size w' w2)) (K7:Hid (∀ w',Below w.heap.size w w'→Calls Tryz.prog 12 #[.slice lk.e m3 lk.ce,.slice lk'.e m3' lk'.ce] w' fun e w2=>e= .returned (.bool false)∧Below w'.heap.size w' w2)):
  Calls Tryz.prog 26 #[.agg #[.int .i64 k,.string X,.int .i64 n,.slice lk.p m1 lk.cp,.int .i64 x.kind,.int .i64 x.n,.string ⟨x.name.toArray⟩,.string ⟨x.op.toArray⟩,.slice lk.x x.kids.length lk.cx,.slice lk.b m2 lk.cb,.slice lk.e m3 lk.ce,.slice lk.u m4 lk.cu,.int .i64 p],.agg #[.int .i64 k2,.string X2,.int .i64 n2,.slice lk'.p m1' lk'.cp,.int .i64 x2.kind,.int .i64 x2.n,.string ⟨x2.name.toArray⟩,.string ⟨x2.op.toArray⟩,.slice lk'.x x2.kids.length lk'.cx,.slice lk'.b m2' lk'.cb,.slice lk'.e m3' lk'.ce,.slice lk'.u m4' lk'.cu,.int .i64 p2]] w fun e w'=>e= .returned (.bool false)∧Below w.heap.size w w':=by
 have HBX:Hid (∀ W',Below ((w.alloc (.cells #[.int .i64 k,.string X,.int .i64 n,.slice lk.p m1 lk.cp,.int .i64 x.kind,.int .i64 x.n,.string ⟨x.name.toArray⟩,.string ⟨x.op.toArray⟩,.slice lk.x x.kids.length lk.cx,.slice lk.b m2 lk.cb,.slice lk.e m3 lk.ce,.slice lk.u m4 lk.cu,.int .i64 p] 41)).alloc (.cells #[.int .i64 k2,.string X2,.int .i64 n2,.slice lk'.p m1' lk'.cp,.int .i64 x2.kind,.int .i64 x2.n,.string ⟨x2.name.toArray⟩,.string ⟨x2.op.toArray⟩,.slice lk'.x x2.kids.length lk'.cx,.slice lk'.b m2' lk'.cb,.slice lk'.e m3' lk'.ce,.slice lk'.u m4' lk'.cu,.int .i64 p2] 41)).heap.size ((w.alloc (.cells #[.int .i64 k,.string X,.int .i64 n,.slice lk.p m1 lk.cp,.int .i64 x.kind,.int .i64 x.n,.string ⟨x.name.toArray⟩,.string ⟨x.op.toArray⟩,.slice lk.x x.kids.length lk.cx,.slice lk.b m2 lk.cb,.slice lk.e m3 lk.ce,.slice lk.u m4 lk.cu,.int .i64 p] 41)).alloc (.cells #[.int .i64 k2,.string X2,.int .i64 n2,.slice lk'.p m1' lk'.cp,.int .i64 x2.kind,.int .i64 x2.n,.string ⟨x2.name.toArray⟩,.string ⟨x2.op.toArray⟩,.slice lk'.x x2.kids.length lk'.cx,.slice lk'.b m2' lk'.cb,.slice lk'.e m3' lk'.ce,.slice lk'.u m4' lk'.cu,.int .i64 p2] 41)) W'→BoxL W' w.heap.size [.int .i64 k,.string X,.int .i64 n,.slice lk.p m1 lk.cp,.int .i64 x.kind,.int .i64 x.n,.string ⟨x.name.toArray⟩,.string ⟨x.op.toArray⟩,.slice lk.x x.kids.length lk.cx,.slice lk.b m2 lk.cb,.slice lk.e m3 lk.ce,.slice lk.u m4 lk.cu,.int .i64 p]∧BoxL W' (w.heap.size+1) [.int .i64 k2,.string X2,.int .i64 n2,.slice lk'.p m1' lk'.cp,.int .i64 x2.kind,.int .i64 x2.n,.string ⟨x2.name.toArray⟩,.string ⟨x2.op.toArray⟩,.slice lk'.x x2.kids.length lk'.cx,.slice lk'.b m2' lk'.cb,.slice lk'.e m3' lk'.ce,.slice lk'.u m4' lk'.cu,.int .i64 p2]):=Lib.hid fun W' hb=>by
  have h1:=BoxL.new w 41 [.int .i64 k,.string X,.int .i64 n,.slice lk.p m1 lk.cp,.int .i64 x.kind,.int .i64 x.n,.string ⟨x.name.toArray⟩,.string ⟨x.op.toArray⟩,.slice lk.x x.kids.length lk.cx,.slice lk.b m2 lk.cb,.slice lk.e m3 lk.ce,.slice lk.u m4 lk.cu,.int .i64 p];have h2:=BoxL.new (w.alloc (.cells #[.int .i64 k,.string X,.int .i64 n,.slice lk.p m1 lk.cp,.int .i64 x.kind,.int .i64 x.n,.string ⟨x.name.toArray⟩,.string ⟨x.op.toArray⟩,.slice lk.x x.kids.length lk.cx,.slice lk.b m2 lk.cb,.slice lk.e m3 lk.ce,.slice lk.u m4 lk.cu,.int .i64 p] 41)) 41 [.int .i64 k2,.string X2,.int .i64 n2,.slice lk'.p m1' lk'.cp,.int .i64 x2.kind,.int .i64 x2.n,.string ⟨x2.name.toArray⟩,.string ⟨x2.op.toArray⟩,.slice lk'.x x2.kids.length lk'.cx,.slice lk'.b m2' lk'.cb,.slice lk'.e m3' lk'.ce,.slice lk'.u m4' lk'.cu,.int .i64 p2];rw[size_allocX] at h2;exact⟨(h1.low (by simp) (one_boxX _ _)).low (by simp) hb,h2.low (by simp) hb⟩
 go_enter Tryz.func26,Tryz.ntmps26;go_wp2_with (first | (go_at_call 38;go_must ((with_reducible refine(K4.out _ (two_boxesX w _ _)).mono ?_);rintro e v4 ⟨rfl,hb4⟩;have HT4:=Lib.hid hb4;clear hb4;obtain⟨u1,u2⟩:=HBX.out _ HT4.out;obtain⟨c0,c1,c2,c3,c4,c5,c6,c7,c8,c9,c10,c11,c12⟩:=u1.all13;obtain⟨d0,d1,d2,d3,d4,d5,d6,d7,d8,d9,d10,d11,d12⟩:=u2.all13;clear u1 u2 c0 c1 c2 c12 d0 d1 d2 d12)) | (go_at_call 39;go_must ((with_reducible refine(K5.out _ ((two_boxesX w _ _).trans (HT4.out.mono (by simp;omega)))).mono ?_);rintro e v5 ⟨rfl,hb5⟩;have HT5:=Lib.hid (HT4.out.trans (hb5.mono HT4.out.size));clear hb5;obtain⟨u1,u2⟩:=HBX.out _ HT5.out;obtain⟨c0,c1,c2,c3,c4,c5,c6,c7,c8,c9,c10,c11,c12⟩:=u1.all13;obtain⟨d0,d1,d2,d3,d4,d5,d6,d7,d8,d9,d10,d11,d12⟩:=u2.all13;clear u1 u2 c0 c1 c2 c12 d0 d1 d2 d12)) | (go_at_call 12;((with_reducible refine(K6.out _ ((two_boxesX w _ _).trans (HT5.out.mono (by simp;omega)))).mono ?_);rintro e v6 ⟨rfl,hb6⟩;have HT6:=Lib.hid (HT5.out.trans (hb6.mono HT5.out.size));clear hb6 K6;obtain⟨u1,u2⟩:=HBX.out _ HT6.out;obtain⟨c0,c1,c2,c3,c4,c5,c6,c7,c8,c9,c10,c11,c12⟩:=u1.all13;obtain⟨d0,d1,d2,d3,d4,d5,d6,d7,d8,d9,d10,d11,d12⟩:=u2.all13;clear u1 u2 c0 c1 c2 c12 d0 d1 d2 d12)) | (go_at_call 12;go_must ((with_reducible refine(K7.out _ ((two_boxesX w _ _).trans (HT6.out.mono (by simp;omega)))).mono ?_);rintro e v7 ⟨rfl,hb7⟩;have HT7:=Lib.hid (HT6.out.trans (hb7.mono HT6.out.size));clear hb7)));go_ret;exact⟨rfl,(two_boxesX w _ _).trans (HT7.out.mono (by simp;omega))⟩
theorem pc_walk8f (k n p k2 n2 p2:Int) (X X2:ByteArray) (x x2:Ex) (m1 m2 m3 m4 m1' m2' m3' m4':Nat) (lk lk':Lk) (w:World)
  (g1:(k==k2)=true) (g2:(X.toList==X2.toList)=true) (g3:(n==n2)=true) (K4:Hid (∀ w',Below w.heap.size w w'→Calls Tryz.prog 38 #[.slice lk.p m1 lk.cp,.slice lk'.p m1' lk'.cp] w' fun e w2=>e= .returned (.bool true)∧Below w'.heap.size w' w2)) (K5:Hid (∀ w',Below w.heap.size w w'→Calls Tryz.prog 39 #[.agg #[.int .i64 x.kind,.int .i64 x.n,.string ⟨x.name.toArray⟩,.string ⟨x.op.toArray⟩,.slice lk.x x.kids.length lk.cx],.agg #[.int .i64 x2.kind,.int .i64 x2.n,.string ⟨x2.name.toArray⟩,.string ⟨x2.op.toArray⟩,.slice lk'.x x2.kids.length lk'.cx]] w' fun e w2=>e= .returned (.bool true)∧Below w'.heap.size w' w2)) (K6:Hid (∀ w',Below w.heap.size w w'→Calls Tryz.prog 12 #[.slice lk.b m2 lk.cb,.slice lk'.b m2' lk'.cb] w' fun e w2=>e= .returned (.bool true)∧Below w'.heap.size w' w2)) (K7:Hid (∀ w',Below w.heap.size w w'→Calls Tryz.prog 12 #[.slice lk.e m3 lk.ce,.slice lk'.e m3' lk'.ce] w' fun e w2=>e= .returned (.bool true)∧Below w'.heap.size w' w2)) (K8:Hid (∀ w',Below w.heap.size w w'→Calls Tryz.prog 40 #[.slice lk.u m4 lk.cu,.slice lk'.u m4' lk'.cu,.func (.func 41) #[] #[]] w' fun e w2=>e= .returned (.bool false)∧Below w'.heap.size w' w2)):
  Calls Tryz.prog 26 #[.agg #[.int .i64 k,.string X,.int .i64 n,.slice lk.p m1 lk.cp,.int .i64 x.kind,.int .i64 x.n,.string ⟨x.name.toArray⟩,.string ⟨x.op.toArray⟩,.slice lk.x x.kids.length lk.cx,.slice lk.b m2 lk.cb,.slice lk.e m3 lk.ce,.slice lk.u m4 lk.cu,.int .i64 p],.agg #[.int .i64 k2,.string X2,.int .i64 n2,.slice lk'.p m1' lk'.cp,.int .i64 x2.kind,.int .i64 x2.n,.string ⟨x2.name.toArray⟩,.string ⟨x2.op.toArray⟩,.slice lk'.x x2.kids.length lk'.cx,.slice lk'.b m2' lk'.cb,.slice lk'.e m3' lk'.ce,.slice lk'.u m4' lk'.cu,.int .i64 p2]] w fun e w'=>e= .returned (.bool false)∧Below w.heap.size w w':=by
 have HBX:Hid (∀ W',Below ((w.alloc (.cells #[.int .i64 k,.string X,.int .i64 n,.slice lk.p m1 lk.cp,.int .i64 x.kind,.int .i64 x.n,.string ⟨x.name.toArray⟩,.string ⟨x.op.toArray⟩,.slice lk.x x.kids.length lk.cx,.slice lk.b m2 lk.cb,.slice lk.e m3 lk.ce,.slice lk.u m4 lk.cu,.int .i64 p] 41)).alloc (.cells #[.int .i64 k2,.string X2,.int .i64 n2,.slice lk'.p m1' lk'.cp,.int .i64 x2.kind,.int .i64 x2.n,.string ⟨x2.name.toArray⟩,.string ⟨x2.op.toArray⟩,.slice lk'.x x2.kids.length lk'.cx,.slice lk'.b m2' lk'.cb,.slice lk'.e m3' lk'.ce,.slice lk'.u m4' lk'.cu,.int .i64 p2] 41)).heap.size ((w.alloc (.cells #[.int .i64 k,.string X,.int .i64 n,.slice lk.p m1 lk.cp,.int .i64 x.kind,.int .i64 x.n,.string ⟨x.name.toArray⟩,.string ⟨x.op.toArray⟩,.slice lk.x x.kids.length lk.cx,.slice lk.b m2 lk.cb,.slice lk.e m3 lk.ce,.slice lk.u m4 lk.cu,.int .i64 p] 41)).alloc (.cells #[.int .i64 k2,.string X2,.int .i64 n2,.slice lk'.p m1' lk'.cp,.int .i64 x2.kind,.int .i64 x2.n,.string ⟨x2.name.toArray⟩,.string ⟨x2.op.toArray⟩,.slice lk'.x x2.kids.length lk'.cx,.slice lk'.b m2' lk'.cb,.slice lk'.e m3' lk'.ce,.slice lk'.u m4' lk'.cu,.int .i64 p2] 41)) W'→BoxL W' w.heap.size [.int .i64 k,.string X,.int .i64 n,.slice lk.p m1 lk.cp,.int .i64 x.kind,.int .i64 x.n,.string ⟨x.name.toArray⟩,.string ⟨x.op.toArray⟩,.slice lk.x x.kids.length lk.cx,.slice lk.b m2 lk.cb,.slice lk.e m3 lk.ce,.slice lk.u m4 lk.cu,.int .i64 p]∧BoxL W' (w.heap.size+1) [.int .i64 k2,.string X2,.int .i64 n2,.slice lk'.p m1' lk'.cp,.int .i64 x2.kind,.int .i64 x2.n,.string ⟨x2.name.toArray⟩,.string ⟨x2.op.toArray⟩,.slice lk'.x x2.kids.length lk'.cx,.slice lk'.b m2' lk'.cb,.slice lk'.e m3' lk'.ce,.slice lk'.u m4' lk'.cu,.int .i64 p2]):=Lib.hid fun W' hb=>by
  have h1:=BoxL.new w 41 [.int .i64 k,.string X,.int .i64 n,.slice lk.p m1 lk.cp,.int .i64 x.kind,.int .i64 x.n,.string ⟨x.name.toArray⟩,.string ⟨x.op.toArray⟩,.slice lk.x x.kids.length lk.cx,.slice lk.b m2 lk.cb,.slice lk.e m3 lk.ce,.slice lk.u m4 lk.cu,.int .i64 p];have h2:=BoxL.new (w.alloc (.cells #[.int .i64 k,.string X,.int .i64 n,.slice lk.p m1 lk.cp,.int .i64 x.kind,.int .i64 x.n,.string ⟨x.name.toArray⟩,.string ⟨x.op.toArray⟩,.slice lk.x x.kids.length lk.cx,.slice lk.b m2 lk.cb,.slice lk.e m3 lk.ce,.slice lk.u m4 lk.cu,.int .i64 p] 41)) 41 [.int .i64 k2,.string X2,.int .i64 n2,.slice lk'.p m1' lk'.cp,.int .i64 x2.kind,.int .i64 x2.n,.string ⟨x2.name.toArray⟩,.string ⟨x2.op.toArray⟩,.slice lk'.x x2.kids.length lk'.cx,.slice lk'.b m2' lk'.cb,.slice lk'.e m3' lk'.ce,.slice lk'.u m4' lk'.cu,.int .i64 p2];rw[size_allocX] at h2;exact⟨(h1.low (by simp) (one_boxX _ _)).low (by simp) hb,h2.low (by simp) hb⟩
 go_enter Tryz.func26,Tryz.ntmps26;go_wp2_with (first | (go_at_call 38;go_must ((with_reducible refine(K4.out _ (two_boxesX w _ _)).mono ?_);rintro e v4 ⟨rfl,hb4⟩;have HT4:=Lib.hid hb4;clear hb4;obtain⟨u1,u2⟩:=HBX.out _ HT4.out;obtain⟨c0,c1,c2,c3,c4,c5,c6,c7,c8,c9,c10,c11,c12⟩:=u1.all13;obtain⟨d0,d1,d2,d3,d4,d5,d6,d7,d8,d9,d10,d11,d12⟩:=u2.all13;clear u1 u2 c0 c1 c2 c12 d0 d1 d2 d12)) | (go_at_call 39;go_must ((with_reducible refine(K5.out _ ((two_boxesX w _ _).trans (HT4.out.mono (by simp;omega)))).mono ?_);rintro e v5 ⟨rfl,hb5⟩;have HT5:=Lib.hid (HT4.out.trans (hb5.mono HT4.out.size));clear hb5;obtain⟨u1,u2⟩:=HBX.out _ HT5.out;obtain⟨c0,c1,c2,c3,c4,c5,c6,c7,c8,c9,c10,c11,c12⟩:=u1.all13;obtain⟨d0,d1,d2,d3,d4,d5,d6,d7,d8,d9,d10,d11,d12⟩:=u2.all13;clear u1 u2 c0 c1 c2 c12 d0 d1 d2 d12)) | (go_at_call 12;((with_reducible refine(K6.out _ ((two_boxesX w _ _).trans (HT5.out.mono (by simp;omega)))).mono ?_);rintro e v6 ⟨rfl,hb6⟩;have HT6:=Lib.hid (HT5.out.trans (hb6.mono HT5.out.size));clear hb6 K6;obtain⟨u1,u2⟩:=HBX.out _ HT6.out;obtain⟨c0,c1,c2,c3,c4,c5,c6,c7,c8,c9,c10,c11,c12⟩:=u1.all13;obtain⟨d0,d1,d2,d3,d4,d5,d6,d7,d8,d9,d10,d11,d12⟩:=u2.all13;clear u1 u2 c0 c1 c2 c12 d0 d1 d2 d12)) | (go_at_call 12;go_must ((with_reducible refine(K7.out _ ((two_boxesX w _ _).trans (HT6.out.mono (by simp;omega)))).mono ?_);rintro e v7 ⟨rfl,hb7⟩;have HT7:=Lib.hid (HT6.out.trans (hb7.mono HT6.out.size));clear hb7;obtain⟨u1,u2⟩:=HBX.out _ HT7.out;obtain⟨c0,c1,c2,c3,c4,c5,c6,c7,c8,c9,c10,c11,c12⟩:=u1.all13;obtain⟨d0,d1,d2,d3,d4,d5,d6,d7,d8,d9,d10,d11,d12⟩:=u2.all13;clear u1 u2 c0 c1 c2 c12 d0 d1 d2 d12)) | (go_at_call 40;go_must ((with_reducible refine(K8.out _ ((two_boxesX w _ _).trans (HT7.out.mono (by simp;omega)))).mono ?_);rintro e v8 ⟨rfl,hb8⟩;have HT8:=Lib.hid (HT7.out.trans (hb8.mono HT7.out.size));clear hb8)));go_ret;exact⟨rfl,(two_boxesX w _ _).trans (HT8.out.mono (by simp;omega))⟩
theorem pc_walk8t (k n p k2 n2 p2:Int) (X X2:ByteArray) (x x2:Ex) (m1 m2 m3 m4 m1' m2' m3' m4':Nat) (lk lk':Lk) (w:World)
  (g1:(k==k2)=true) (g2:(X.toList==X2.toList)=true) (g3:(n==n2)=true) (K4:Hid (∀ w',Below w.heap.size w w'→Calls Tryz.prog 38 #[.slice lk.p m1 lk.cp,.slice lk'.p m1' lk'.cp] w' fun e w2=>e= .returned (.bool true)∧Below w'.heap.size w' w2)) (K5:Hid (∀ w',Below w.heap.size w w'→Calls Tryz.prog 39 #[.agg #[.int .i64 x.kind,.int .i64 x.n,.string ⟨x.name.toArray⟩,.string ⟨x.op.toArray⟩,.slice lk.x x.kids.length lk.cx],.agg #[.int .i64 x2.kind,.int .i64 x2.n,.string ⟨x2.name.toArray⟩,.string ⟨x2.op.toArray⟩,.slice lk'.x x2.kids.length lk'.cx]] w' fun e w2=>e= .returned (.bool true)∧Below w'.heap.size w' w2)) (K6:Hid (∀ w',Below w.heap.size w w'→Calls Tryz.prog 12 #[.slice lk.b m2 lk.cb,.slice lk'.b m2' lk'.cb] w' fun e w2=>e= .returned (.bool true)∧Below w'.heap.size w' w2)) (K7:Hid (∀ w',Below w.heap.size w w'→Calls Tryz.prog 12 #[.slice lk.e m3 lk.ce,.slice lk'.e m3' lk'.ce] w' fun e w2=>e= .returned (.bool true)∧Below w'.heap.size w' w2)) (K8:Hid (∀ w',Below w.heap.size w w'→Calls Tryz.prog 40 #[.slice lk.u m4 lk.cu,.slice lk'.u m4' lk'.cu,.func (.func 41) #[] #[]] w' fun e w2=>e= .returned (.bool true)∧Below w'.heap.size w' w2)):
  Calls Tryz.prog 26 #[.agg #[.int .i64 k,.string X,.int .i64 n,.slice lk.p m1 lk.cp,.int .i64 x.kind,.int .i64 x.n,.string ⟨x.name.toArray⟩,.string ⟨x.op.toArray⟩,.slice lk.x x.kids.length lk.cx,.slice lk.b m2 lk.cb,.slice lk.e m3 lk.ce,.slice lk.u m4 lk.cu,.int .i64 p],.agg #[.int .i64 k2,.string X2,.int .i64 n2,.slice lk'.p m1' lk'.cp,.int .i64 x2.kind,.int .i64 x2.n,.string ⟨x2.name.toArray⟩,.string ⟨x2.op.toArray⟩,.slice lk'.x x2.kids.length lk'.cx,.slice lk'.b m2' lk'.cb,.slice lk'.e m3' lk'.ce,.slice lk'.u m4' lk'.cu,.int .i64 p2]] w fun e w'=>e= .returned (.bool true)∧Below w.heap.size w w':=by
 have HBX:Hid (∀ W',Below ((w.alloc (.cells #[.int .i64 k,.string X,.int .i64 n,.slice lk.p m1 lk.cp,.int .i64 x.kind,.int .i64 x.n,.string ⟨x.name.toArray⟩,.string ⟨x.op.toArray⟩,.slice lk.x x.kids.length lk.cx,.slice lk.b m2 lk.cb,.slice lk.e m3 lk.ce,.slice lk.u m4 lk.cu,.int .i64 p] 41)).alloc (.cells #[.int .i64 k2,.string X2,.int .i64 n2,.slice lk'.p m1' lk'.cp,.int .i64 x2.kind,.int .i64 x2.n,.string ⟨x2.name.toArray⟩,.string ⟨x2.op.toArray⟩,.slice lk'.x x2.kids.length lk'.cx,.slice lk'.b m2' lk'.cb,.slice lk'.e m3' lk'.ce,.slice lk'.u m4' lk'.cu,.int .i64 p2] 41)).heap.size ((w.alloc (.cells #[.int .i64 k,.string X,.int .i64 n,.slice lk.p m1 lk.cp,.int .i64 x.kind,.int .i64 x.n,.string ⟨x.name.toArray⟩,.string ⟨x.op.toArray⟩,.slice lk.x x.kids.length lk.cx,.slice lk.b m2 lk.cb,.slice lk.e m3 lk.ce,.slice lk.u m4 lk.cu,.int .i64 p] 41)).alloc (.cells #[.int .i64 k2,.string X2,.int .i64 n2,.slice lk'.p m1' lk'.cp,.int .i64 x2.kind,.int .i64 x2.n,.string ⟨x2.name.toArray⟩,.string ⟨x2.op.toArray⟩,.slice lk'.x x2.kids.length lk'.cx,.slice lk'.b m2' lk'.cb,.slice lk'.e m3' lk'.ce,.slice lk'.u m4' lk'.cu,.int .i64 p2] 41)) W'→BoxL W' w.heap.size [.int .i64 k,.string X,.int .i64 n,.slice lk.p m1 lk.cp,.int .i64 x.kind,.int .i64 x.n,.string ⟨x.name.toArray⟩,.string ⟨x.op.toArray⟩,.slice lk.x x.kids.length lk.cx,.slice lk.b m2 lk.cb,.slice lk.e m3 lk.ce,.slice lk.u m4 lk.cu,.int .i64 p]∧BoxL W' (w.heap.size+1) [.int .i64 k2,.string X2,.int .i64 n2,.slice lk'.p m1' lk'.cp,.int .i64 x2.kind,.int .i64 x2.n,.string ⟨x2.name.toArray⟩,.string ⟨x2.op.toArray⟩,.slice lk'.x x2.kids.length lk'.cx,.slice lk'.b m2' lk'.cb,.slice lk'.e m3' lk'.ce,.slice lk'.u m4' lk'.cu,.int .i64 p2]):=Lib.hid fun W' hb=>by
  have h1:=BoxL.new w 41 [.int .i64 k,.string X,.int .i64 n,.slice lk.p m1 lk.cp,.int .i64 x.kind,.int .i64 x.n,.string ⟨x.name.toArray⟩,.string ⟨x.op.toArray⟩,.slice lk.x x.kids.length lk.cx,.slice lk.b m2 lk.cb,.slice lk.e m3 lk.ce,.slice lk.u m4 lk.cu,.int .i64 p];have h2:=BoxL.new (w.alloc (.cells #[.int .i64 k,.string X,.int .i64 n,.slice lk.p m1 lk.cp,.int .i64 x.kind,.int .i64 x.n,.string ⟨x.name.toArray⟩,.string ⟨x.op.toArray⟩,.slice lk.x x.kids.length lk.cx,.slice lk.b m2 lk.cb,.slice lk.e m3 lk.ce,.slice lk.u m4 lk.cu,.int .i64 p] 41)) 41 [.int .i64 k2,.string X2,.int .i64 n2,.slice lk'.p m1' lk'.cp,.int .i64 x2.kind,.int .i64 x2.n,.string ⟨x2.name.toArray⟩,.string ⟨x2.op.toArray⟩,.slice lk'.x x2.kids.length lk'.cx,.slice lk'.b m2' lk'.cb,.slice lk'.e m3' lk'.ce,.slice lk'.u m4' lk'.cu,.int .i64 p2];rw[size_allocX] at h2;exact⟨(h1.low (by simp) (one_boxX _ _)).low (by simp) hb,h2.low (by simp) hb⟩
 go_enter Tryz.func26,Tryz.ntmps26;go_wp2_with (first | (go_at_call 38;go_must ((with_reducible refine(K4.out _ (two_boxesX w _ _)).mono ?_);rintro e v4 ⟨rfl,hb4⟩;have HT4:=Lib.hid hb4;clear hb4;obtain⟨u1,u2⟩:=HBX.out _ HT4.out;obtain⟨c0,c1,c2,c3,c4,c5,c6,c7,c8,c9,c10,c11,c12⟩:=u1.all13;obtain⟨d0,d1,d2,d3,d4,d5,d6,d7,d8,d9,d10,d11,d12⟩:=u2.all13;clear u1 u2 c0 c1 c2 c12 d0 d1 d2 d12)) | (go_at_call 39;go_must ((with_reducible refine(K5.out _ ((two_boxesX w _ _).trans (HT4.out.mono (by simp;omega)))).mono ?_);rintro e v5 ⟨rfl,hb5⟩;have HT5:=Lib.hid (HT4.out.trans (hb5.mono HT4.out.size));clear hb5;obtain⟨u1,u2⟩:=HBX.out _ HT5.out;obtain⟨c0,c1,c2,c3,c4,c5,c6,c7,c8,c9,c10,c11,c12⟩:=u1.all13;obtain⟨d0,d1,d2,d3,d4,d5,d6,d7,d8,d9,d10,d11,d12⟩:=u2.all13;clear u1 u2 c0 c1 c2 c12 d0 d1 d2 d12)) | (go_at_call 12;((with_reducible refine(K6.out _ ((two_boxesX w _ _).trans (HT5.out.mono (by simp;omega)))).mono ?_);rintro e v6 ⟨rfl,hb6⟩;have HT6:=Lib.hid (HT5.out.trans (hb6.mono HT5.out.size));clear hb6 K6;obtain⟨u1,u2⟩:=HBX.out _ HT6.out;obtain⟨c0,c1,c2,c3,c4,c5,c6,c7,c8,c9,c10,c11,c12⟩:=u1.all13;obtain⟨d0,d1,d2,d3,d4,d5,d6,d7,d8,d9,d10,d11,d12⟩:=u2.all13;clear u1 u2 c0 c1 c2 c12 d0 d1 d2 d12)) | (go_at_call 12;go_must ((with_reducible refine(K7.out _ ((two_boxesX w _ _).trans (HT6.out.mono (by simp;omega)))).mono ?_);rintro e v7 ⟨rfl,hb7⟩;have HT7:=Lib.hid (HT6.out.trans (hb7.mono HT6.out.size));clear hb7;obtain⟨u1,u2⟩:=HBX.out _ HT7.out;obtain⟨c0,c1,c2,c3,c4,c5,c6,c7,c8,c9,c10,c11,c12⟩:=u1.all13;obtain⟨d0,d1,d2,d3,d4,d5,d6,d7,d8,d9,d10,d11,d12⟩:=u2.all13;clear u1 u2 c0 c1 c2 c12 d0 d1 d2 d12)) | (go_at_call 40;go_must ((with_reducible refine(K8.out _ ((two_boxesX w _ _).trans (HT7.out.mono (by simp;omega)))).mono ?_);rintro e v8 ⟨rfl,hb8⟩;have HT8:=Lib.hid (HT7.out.trans (hb8.mono HT7.out.size));clear hb8)));go_ret;exact⟨rfl,(two_boxesX w _ _).trans (HT8.out.mono (by simp;omega))⟩
theorem pc_step (k:Int) (nm:Bs) (n:Int) (ps:List Pt) (x:Ex) (b e:List Cm) (u:List Ru) (p:Int) (hb:∀ c∈b,PC c) (he:∀ c∈e,PC c) (hu:∀ r∈u,PR r):PC (.mk k nm n ps x b e u p):=by
 intro y lk lk' w hk hk' hf hf';obtain⟨k2,nm2,n2,ps2,x2,b2,e2,u2,p2⟩:=y;rw[kidC_eq] at hk hk';obtain⟨k1,k3,k4,k5,k6⟩:=hk;obtain⟨l1,l3,l4,l5,l6⟩:=hk'
 cases hf with
 | mk f1 f2 f3 f4 f5 f6 f7 f8 f9 f10 f11=>
 cases hf' with
 | mk g1 g2 g3 g4 g5 g6 g7 g8 g9 g10 g11=>
 have K4:Hid (∀ w',Below w.heap.size w w'→Calls Tryz.prog 38 #[.slice lk.p ps.length lk.cp,.slice lk'.p ps2.length lk'.cp] w' fun e w2=>e= .returned (.bool (eqB ps ps2))∧Below w'.heap.size w' w2):=Lib.hid fun w' hw=>
  cpart_any _ _ _ _ _ _ ps ps2 w' (rdP_rd.1 (k1.next hw)) (rdP_rd.1 (l1.next hw)) (by omega)
 have K5:Hid (∀ w',Below w.heap.size w w'→Calls Tryz.prog 39 #[.agg #[.int .i64 x.kind,.int .i64 x.n,.string ⟨x.name.toArray⟩,.string ⟨x.op.toArray⟩,.slice lk.x x.kids.length lk.cx],.agg #[.int .i64 x2.kind,.int .i64 x2.n,.string ⟨x2.name.toArray⟩,.string ⟨x2.op.toArray⟩,.slice lk'.x x2.kids.length lk'.cx]] w' fun e w2=>e= .returned (.bool (eqB x x2))∧Below w'.heap.size w' w2):=Lib.hid fun w' hw=>by
  have:=csame_any x x2 lk.x lk'.x lk.cx lk'.cx w' (k3.next hw) (l3.next hw) f4 g4;rw[valX_eq,valX_eq] at this;exact this
 have K6:Hid (∀ w',Below w.heap.size w w'→Calls Tryz.prog 12 #[.slice lk.b b.length lk.cb,.slice lk'.b b2.length lk'.cb] w' fun e w2=>e= .returned (.bool (eqB (b.map stC) (b2.map stC)))∧Below w'.heap.size w' w2):=Lib.hid fun w' hw=>
  same_list b b2 hb _ _ _ _ w' (k4.next hw) (l4.next hw) f9 g9 f6
 have K7:Hid (∀ w',Below w.heap.size w w'→Calls Tryz.prog 12 #[.slice lk.e e.length lk.ce,.slice lk'.e e2.length lk'.ce] w' fun e' w2=>e'= .returned (.bool (eqB (e.map stC) (e2.map stC)))∧Below w'.heap.size w' w2):=Lib.hid fun w' hw=>
  same_list e e2 he _ _ _ _ w' (k5.next hw) (l5.next hw) f10 g10 f7
 have K8:Hid (∀ w',Below w.heap.size w w'→Calls Tryz.prog 40 #[.slice lk.u u.length lk.cu,.slice lk'.u u2.length lk'.cu,.func (.func 41) #[] #[]] w' fun e w2=>e= .returned (.bool (eqB (u.map stR) (u2.map stR)))∧Below w'.heap.size w' w2):=Lib.hid fun w' hw=>
  eqU_list u u2 hu _ _ _ _ w' (k6.next hw) (l6.next hw) f11 g11 f8
 have gx:=nameX_eq (x:=nm) (y:=nm2) (X:=⟨nm.toArray⟩) (Y:=⟨nm2.toArray⟩) rfl rfl;have no:¬ (k=k2∧nm=nm2∧n=n2∧ps=ps2∧x=x2∧b.map stC=b2.map stC∧e.map stC=e2.map stC∧u.map stR=u2.map stR)→eqB (stC (.mk k nm n ps x b e u p)) (stC (.mk k2 nm2 n2 ps2 x2 b2 e2 u2 p2))=false:=fun h=>eqB_no fun h'=>h (stC_eq.1 h')
 by_cases q1:k=k2
 ·have h1:(k==k2)=true:=by simp[q1]
  by_cases q2:nm=nm2
  ·rw[eqB_yes q2] at gx
   by_cases q3:n=n2
   ·have h3:(n==n2)=true:=by simp[q3]
    by_cases q4:ps=ps2
    ·rw[eqB_yes q4] at K4
     by_cases q5:x=x2
     ·rw[eqB_yes q5] at K5
      by_cases q6:b.map stC=b2.map stC
      ·rw[eqB_yes q6] at K6
       by_cases q7:e.map stC=e2.map stC
       ·rw[eqB_yes q7] at K7
        by_cases q8:u.map stR=u2.map stR
        ·rw[eqB_yes q8] at K8
         rw[eqB_yes (stC_eq.2 ⟨q1,q2,q3,q4,q5,q6,q7,q8⟩)];exact pc_walk8t k n p k2 n2 p2 _ _ x x2 _ _ _ _ _ _ _ _ lk lk' w h1 gx h3 K4 K5 K6 K7 K8
        ·rw[eqB_no q8] at K8
         rw[no fun h=>q8 h.2.2.2.2.2.2.2];exact pc_walk8f k n p k2 n2 p2 _ _ x x2 _ _ _ _ _ _ _ _ lk lk' w h1 gx h3 K4 K5 K6 K7 K8
       ·rw[eqB_no q7] at K7
        rw[no fun h=>q7 h.2.2.2.2.2.2.1];exact pc_walk7f k n p k2 n2 p2 _ _ x x2 _ _ _ _ _ _ _ _ lk lk' w h1 gx h3 K4 K5 K6 K7
      ·rw[eqB_no q6] at K6
       rw[no fun h=>q6 h.2.2.2.2.2.1];exact pc_walk6f k n p k2 n2 p2 _ _ x x2 _ _ _ _ _ _ _ _ lk lk' w h1 gx h3 K4 K5 K6
     ·rw[eqB_no q5] at K5
      rw[no fun h=>q5 h.2.2.2.2.1];exact pc_walk5f k n p k2 n2 p2 _ _ x x2 _ _ _ _ _ _ _ _ lk lk' w h1 gx h3 K4 K5
    ·rw[eqB_no q4] at K4
     rw[no fun h=>q4 h.2.2.2.1];exact pc_walk4f k n p k2 n2 p2 _ _ x x2 _ _ _ _ _ _ _ _ lk lk' w h1 gx h3 K4
   ·rw[no fun h=>q3 h.2.2.1]
    exact pc_walk3f k n p k2 n2 p2 _ _ x x2 _ _ _ _ _ _ _ _ lk lk' w h1 gx (by simp[q3])
  ·rw[eqB_no q2] at gx
   rw[no fun h=>q2 h.2.1];exact pc_walk2f k n p k2 n2 p2 _ _ x x2 _ _ _ _ _ _ _ _ lk lk' w h1 gx
 ·rw[no fun h=>q1 h.1]
  exact pc_walk1f k n p k2 n2 p2 _ _ x x2 _ _ _ _ _ _ _ _ lk lk' w (by simp[q1])
theorem pc_all:(∀ c,PC c)∧∀ r,PR r:=Cm.ind2 (P:=PC) (Q:=PR) pc_step pr_step
theorem csameS_any (b b2:List Cm) (A A':Option Addr) (c c':Nat) (w:World) (hk:RowC (LtX w.heap.size) w A b) (hk':RowC (LtX w.heap.size) w A' b2) (hs:∀ x∈b,FitC x) (hs':∀ x∈b2,FitC x) (hm:b.length≤1000000):
  Calls Tryz.prog 12 #[.slice A b.length c,.slice A' b2.length c'] w fun e w'=>e= .returned (.bool (eqB (b.map stC) (b2.map stC)))∧Below w.heap.size w w':=
 same_list b b2 (fun x _=>pc_all.1 x) A A' c c' w hk hk' hs hs' hm
end Go.Proofs.YtngfihoempcplaaGreatDoor
