import Derived.Test.YtngfihoempcplaaGreatDoorCf
import Derived.Test.YtngfihoempcplaaGreatDoorSc28
import Derived.Test.YtngfihoempcplaaGreatDoorSkb
import Derived.Test.YtngfihoempcplaaGreatDoorSke
import Derived.Test.YtngfihoempcplaaGreatDoorEx30
import Derived.Test.YtngfihoempcplaaGreatDoorTkQ
namespace Go.Proofs.YtngfihoempcplaaGreatDoor
open Go Go.RowKit
set_option maxRecDepth 100000
set_option maxHeartbeats 8000000
section
theorem fin3 {α γ:Type} {R:Rz γ} {Rl:Rz α} {x:α} {g:α→γ} (hx:∀ y j,Rl= .ok y j→y=x) (e:R=Rl.then fun y j=> .ok (g y) j):R.at=Rl.at∧R.err=Rl.err∧∀ y j,R= .ok y j→y=g x:=by
 have hm:=z33 hx g;rw[e];exact⟨hm.1,hm.2.1,fun y j h=>(hm.2.2 y j h).1⟩
section
variable {b:Nat} {A:OA} {n c:Nat} {l:List Tok} {blk:Nat→Nat→Rz (List Cm)} {k0:Nat}
theorem namC {k o:Nat} {R:Rz Bs} (h:gate o k (nameF l)=R):NamC b A n c l k o R:=zz fun w' h'=>by subst h;exact y79 b w' A n c l k o h'
theorem nmC {kind:Int} (hk:kind=3∨kind=8∨kind=9∨kind=11) {k o:Nat} {R:Rz Int} (h:gate o k (numF l kind)=R):NmC b A n c l kind k o R:=zz fun w' h'=>by subst h;exact x1r kind hk b w' A n c l k o h'
theorem conC {k o:Nat} {R:Rz Ex} (h:gate o k (condF l)=R):ConC b A n c l k o R:=zz fun w' h'=>by subst h;exact y8a b w' A n c l k o h'
theorem bloC (HB:BlkC b A n c l blk k0) {d k o:Nat} {R:Rz (List Cm)} (hk:o=0→k0≤k∧d≤16) (hd:d≤99) (h:gate o k (blk d)=R):BloC b A n c l d k o R:=zz fun w' h'=>by subst h;exact HB d k o w' hk hd h'
theorem rusC (hIn:BlkIn l blk) (HB:BlkC b A n c l blk k0) {d k o:Nat} {R:Rz (List Ru)} (hk:o=0→k0≤k∧d≤16) (hd:d≤98) (h:gate o k (rulesF l blk d)=R):RusC b A n c l d k o R:=zz fun w' h'=>by subst h;exact y60 b A n c l blk hIn k0 HB d k o w' hk hd h'
theorem kowC {S:Bs} {K:Nat} (h:kindW S=K):KowC ⟨S.toArray⟩ K:=zz fun w'=>by
 have:=y99 ⟨S.toArray⟩ w';rw[show (⟨S.toArray⟩:BA).data.toList=S from by simp,h] at this;exact this
theorem fofC {K:Nat} (h:1≤K∧K≤16):FofC K ⟨(wordsC.getD (K - 1) []).toArray⟩ (formB K):=zz fun w'=>z02 K h w'
theorem x2t (hIn:BlkIn l blk) (HB:BlkC b A n c l blk k0) (d k:Nat) (w:World) (hd:d≤16) (hk0:k0≤k+1) (h:RdS b w A n c l k 0) (hk1:(nxz l k).kind=1):
  Cz 32 #[pP b,d] w (CmdS b w A n c l (cmdF l blk d k)):=by
 have hkl:k<l.length:=z17 (by rw[hk1];decide);have hlen:=h.len;have hkn:k+1≤n:=by omega
 have hk2:k+1≤l.length:=hkl;have KN:=nextC b A n c l k 0;rw[show nxo l k 0=nxz l k from rfl] at KN;obtain⟨K,hK⟩:∃ K,K=kindW (nxz l k).word:=⟨_,rfl⟩;have hK16:=y5a (nxz l k).word;rw[←hK] at hK16;have KF:=kowC hK.symm;have hcases:K=0∨K=1∨K=2∨K=3∨K=4∨K=5∨K=6∨K=7∨K=8∨K=9∨K=10∨K=11∨K=12∨K=13∨K=14∨K=15∨K=16:=by omega
 have atge:∀ {α:Type} {R:Rz α} {i m:Nat},R.within i m→R.err=0→i≤R.at∧R.at≤m:=fun {α R i m} hw he=>by
  obtain⟨x,j,hx⟩:=z04 he;subst hx;exact hw
 rcases hcases with rfl | rfl | rfl | rfl | rfl | rfl | rfl | rfl | rfl | rfl | rfl | rfl | rfl | rfl | rfl | rfl | rfl
 ·have e:cmdF l blk d k= .bad k false:=by unfold cmdF;dsimp only;rw[←hK];rfl
  rw[e];exact x4z b w A n c l d k h _ KN KF (refC1 b A n c l k 0 rfl)
 ·have e:cmdF l blk d k=(nameF l (k+1)).then fun s i=>(kindF l 3 i).then fun t j=> .ok (Cm.mk 1 s 0 t.parts exNone [] [] [] (nxz l k).pl) j:=by
   unfold cmdF;dsimp only;rw[←hK];unfold textF;simp only[Rz.then_assoc];rfl
  exact y4o b w A n c l d k h hkn _ KN _ _ KF _ (fofC (K:=1) (by decide)) _ (.k1 _ _ (namC (z0f _ _)) (kindC b A n c l 3 _ _ (by decide) rfl)
   (fun s tk hs ht=>fin3 ht (g:=fun t=>Cm.mk 1 s 0 t.parts exNone [] [] [] (nxz l k).pl) (e.trans (z1m hs (kindF l 3) (fun s t j=> .ok (Cm.mk 1 s 0 t.parts exNone [] [] [] (nxz l k).pl) j)))) (fun he=>(z0w (Rz.err_cases _) he).1))
 ·have e:cmdF l blk d k=(nameF l (k+1)).then fun s i=>(condF l i).then fun x j=> .ok (Cm.mk 2 s 0 [] x [] [] [] (nxz l k).pl) j:=by unfold cmdF;dsimp only;rw[←hK];rfl
  exact y4o b w A n c l d k h hkn _ KN _ _ KF _ (fofC (K:=2) (by decide)) _ (.k2 _ _ (namC (z0f _ _)) (conC rfl)
   (fun s x hs hx=>fin3 hx (g:=fun x=>Cm.mk 2 s 0 [] x [] [] [] (nxz l k).pl) (e.trans (z1m hs (condF l) (fun s x j=> .ok (Cm.mk 2 s 0 [] x [] [] [] (nxz l k).pl) j)))) (fun he=>(z0w (Rz.err_cases _) he).1))
 ·have e:cmdF l blk d k=(nameF l (k+1)).then fun s i=>(numF l 3 i).then fun z j=> .ok (Cm.mk 3 s z [] exNone [] [] [] (nxz l k).pl) j:=by unfold cmdF;dsimp only;rw[←hK];rfl
  exact y4o b w A n c l d k h hkn _ KN _ _ KF _ (fofC (K:=3) (by decide)) _ (.k3 _ _ (namC (z0f _ _)) (nmC (.inl rfl) rfl)
   (fun s z hs hx=>fin3 hx (g:=fun z=>Cm.mk 3 s z [] exNone [] [] [] (nxz l k).pl) (e.trans (z1m hs (numF l 3) (fun s z j=> .ok (Cm.mk 3 s z [] exNone [] [] [] (nxz l k).pl) j)))) (fun he=>(z0w (Rz.err_cases _) he).1))
 ·have e:cmdF l blk d k=(condF l (k+1)).then fun x i=>(blk d i).then fun xs j=>if isT l 1 [101,108,115,101] j then (blk d (j+1)).then fun ys m=> .ok (Cm.mk 4 [] 0 [] x xs ys [] (nxz l k).pl) m else .ok (Cm.mk 4 [] 0 [] x xs [] [] (nxz l k).pl) j:=by unfold cmdF;dsimp only;rw[←hK];rfl
  have e2:∀ x,(∀ y j,condF l (k+1)= .ok y j→y=x)→cmdF l blk d k=(gate (condF l (k+1)).err (condF l (k+1)).at (blk d)).then fun xs j=>if isT l 1 [101,108,115,101] j then (blk d (j+1)).then fun ys m=> .ok (Cm.mk 4 [] 0 [] x xs ys [] (nxz l k).pl) m else .ok (Cm.mk 4 [] 0 [] x xs [] [] (nxz l k).pl) j:=fun x hx=>e.trans (z1m hx (blk d) (fun x xs j=>if isT l 1 [101,108,115,101] j then (blk d (j+1)).then fun ys m=> .ok (Cm.mk 4 [] 0 [] x xs ys [] (nxz l k).pl) m else .ok (Cm.mk 4 [] 0 [] x xs [] [] (nxz l k).pl) j))
  have K2:=bloC (b:=b) (A:=A) (n:=n) (c:=c) (l:=l) HB (d:=d) (k:=(condF l (k+1)).at) (o:=(condF l (k+1)).err) (fun he=>by have:=atge (z1z hk2) he;omega) (by omega) rfl
  have hin:(gate (condF l (k+1)).err (condF l (k+1)).at (blk d)).err=0→k0≤(gate (condF l (k+1)).err (condF l (k+1)).at (blk d)).at:=fun he=>by
   obtain⟨e0,x,hx⟩:=z0w (Rz.err_cases _) he;have h1:=atge (z1z hk2) e0;have h2:=z0r (hIn d _ h1.2) hx;omega
  have E1:(gate (condF l (k+1)).err (condF l (k+1)).at (blk d)).err=0→(condF l (k+1)).err=0:=fun he=>(z0w (Rz.err_cases _) he).1
  have K1:=conC (b:=b) (A:=A) (n:=n) (c:=c) (z0f (k+1) (condF l));generalize gate (condF l (k+1)).err (condF l (k+1)).at (blk d)=R2 at K2 hin e2 E1
  cases hv:isO l 1 [101,108,115,101] R2.at R2.err with
  | true=>
    obtain⟨e9,ht⟩:=z16 (by decide) hv;have KT:=z4n (b:=b) (A:=A) (n:=n) (c:=c) (W:=⟨#[101,108,115,101]⟩) (by decide) hv;have K3:=bloC (b:=b) (A:=A) (n:=n) (c:=c) (l:=l) HB (d:=d) (k:=R2.at+1) (o:=R2.err) (R:=blk d (R2.at+1)) (fun he=>by have:=hin he;omega) (by omega) (by rw[e9];rfl);refine x0l b w A n c l d k h hkn _ KN _ _ KF _ (fofC (K:=4) (by decide)) _ (.k4y _ R2 _ _ K1 K2 KT K3 (fun x xs ys hx hxs hys=>fin3 hys (g:=fun ys=>Cm.mk 4 [] 0 [] x xs ys [] (nxz l k).pl) ?_) (fun _=>E1 e9) (fun _=>e9));rw[e2 x hx];obtain⟨y,j,hy⟩:=z04 e9;have:=hxs y j hy;subst this;subst hy;exact if_pos ht
  | false=>
    have KT:=z4o (b:=b) (A:=A) (n:=n) (c:=c) (W:=⟨#[101,108,115,101]⟩) (by decide) hv;refine x0l b w A n c l d k h hkn _ KN _ _ KF _ (fofC (K:=4) (by decide)) _ (.k4n _ R2 _ K1 K2 KT (fun x xs hx hxs=>fin3 hxs (g:=fun xs=>Cm.mk 4 [] 0 [] x xs [] [] (nxz l k).pl) ?_) E1);rw[e2 x hx]
    cases R2 with
    | bad j dd=>rfl
    | ok y j=>exact if_neg (by rw[show isT l 1 [101,108,115,101] j=false from hv];decide)
 ·have e:cmdF l blk d k=(condF l (k+1)).then fun x i=>(blk d i).then fun xs j=> .ok (Cm.mk 5 [] 0 [] x xs [] [] (nxz l k).pl) j:=by unfold cmdF;dsimp only;rw[←hK];rfl
  exact x0l b w A n c l d k h hkn _ KN _ _ KF _ (fofC (K:=5) (by decide)) _ (.k5 _ _ (conC (z0f _ _)) (bloC HB (fun he=>by have:=atge (z1z hk2) he;omega) (by omega) rfl)
   (fun x xs hs hx=>fin3 hx (g:=fun xs=>Cm.mk 5 [] 0 [] x xs [] [] (nxz l k).pl) (e.trans (z1m hs (blk d) (fun x xs j=> .ok (Cm.mk 5 [] 0 [] x xs [] [] (nxz l k).pl) j)))) (fun he=>(z0w (Rz.err_cases _) he).1))
 ·have e:cmdF l blk d k=(nameF l (k+1)).then fun s i=>(blk d i).then fun xs j=> .ok (Cm.mk 6 s 0 [] exNone xs [] [] (nxz l k).pl) j:=by unfold cmdF;dsimp only;rw[←hK];rfl
  exact y4o b w A n c l d k h hkn _ KN _ _ KF _ (fofC (K:=6) (by decide)) _ (.k6 _ _ (namC (z0f _ _)) (bloC HB (fun he=>by have:=atge (z1u hk2) he;omega) (by omega) rfl)
   (fun s xs hs hx=>fin3 hx (g:=fun xs=>Cm.mk 6 s 0 [] exNone xs [] [] (nxz l k).pl) (e.trans (z1m hs (blk d) (fun s xs j=> .ok (Cm.mk 6 s 0 [] exNone xs [] [] (nxz l k).pl) j)))) (fun he=>(z0w (Rz.err_cases _) he).1))
 ·have e:cmdF l blk d k=(nameF l (k+1)).then fun s j=> .ok (Cm.mk 7 s 0 [] exNone [] [] [] (nxz l k).pl) j:=by unfold cmdF;dsimp only;rw[←hK];rfl
  exact y4n b w A n c l d k h hkn _ KN _ _ KF _ (fofC (K:=7) (by decide)) _ (.k7 _ (namC (z0f _ _)) (fun s hs=>fin3 hs (g:=fun s=>Cm.mk 7 s 0 [] exNone [] [] [] (nxz l k).pl) e))
 ·have e:cmdF l blk d k=(numF l 8 (k+1)).then fun z j=> .ok (Cm.mk 8 [] z [] exNone [] [] [] (nxz l k).pl) j:=by unfold cmdF;dsimp only;rw[←hK];rfl
  exact y4n b w A n c l d k h hkn _ KN _ _ KF _ (fofC (K:=8) (by decide)) _ (.k8 _ (nmC (.inr (.inl rfl)) (z0f _ _)) (fun z hs=>fin3 hs (g:=fun z=>Cm.mk 8 [] z [] exNone [] [] [] (nxz l k).pl) e))
 ·have e:cmdF l blk d k=(numF l 9 (k+1)).then fun z j=> .ok (Cm.mk 9 [] z [] exNone [] [] [] (nxz l k).pl) j:=by unfold cmdF;dsimp only;rw[←hK];rfl
  exact x22 b w A n c l d k h hkn _ KN _ _ KF _ (fofC (K:=9) (by decide)) _ (.k9 _ (nmC (.inr (.inr (.inl rfl))) (z0f _ _)) (fun z hs=>fin3 hs (g:=fun z=>Cm.mk 9 [] z [] exNone [] [] [] (nxz l k).pl) e))
 ·have e:cmdF l blk d k=(kindF l 3 (k+1)).then fun t j=> .ok (Cm.mk 10 [] 0 t.parts exNone [] [] [] (nxz l k).pl) j:=by
   unfold cmdF;dsimp only;rw[←hK];unfold textF;simp only[Rz.then_assoc];rfl
  exact y48 b w A n c l d k h hkn _ KN _ _ KF _ (fofC (K:=10) (by decide)) _ (.k10 _ (kindC b A n c l 3 _ _ (by decide) (z0f _ _)) (fun tk ht=>fin3 ht (g:=fun t=>Cm.mk 10 [] 0 t.parts exNone [] [] [] (nxz l k).pl) e))
 ·have e:cmdF l blk d k=(numF l 11 (k+1)).then fun z j=> .ok (Cm.mk 11 [] z [] exNone [] [] [] (nxz l k).pl) j:=by unfold cmdF;dsimp only;rw[←hK];rfl
  exact x22 b w A n c l d k h hkn _ KN _ _ KF _ (fofC (K:=11) (by decide)) _ (.k11 _ (nmC (.inr (.inr (.inr rfl))) (z0f _ _)) (fun z hs=>fin3 hs (g:=fun z=>Cm.mk 11 [] z [] exNone [] [] [] (nxz l k).pl) e))
 ·have e:cmdF l blk d k=(rulesF l blk d (k+1)).then fun us j=> .ok (Cm.mk 12 [] 0 [] exNone [] [] us (nxz l k).pl) j:=by unfold cmdF;dsimp only;rw[←hK];rfl
  exact y48 b w A n c l d k h hkn _ KN _ _ KF _ (fofC (K:=12) (by decide)) _ (.k12 _ (rusC hIn HB (fun _=>⟨hk0,hd⟩) (by omega) (z0f _ _)) (fun us hs=>fin3 hs (g:=fun us=>Cm.mk 12 [] 0 [] exNone [] [] us (nxz l k).pl) e))
 ·have e:cmdF l blk d k=(rulesF l blk d (k+1)).then fun us j=> .ok (Cm.mk 13 [] 0 [] exNone [] [] us (nxz l k).pl) j:=by unfold cmdF;dsimp only;rw[←hK];rfl
  exact y48 b w A n c l d k h hkn _ KN _ _ KF _ (fofC (K:=13) (by decide)) _ (.k13 _ (rusC hIn HB (fun _=>⟨hk0,hd⟩) (by omega) (z0f _ _)) (fun us hs=>fin3 hs (g:=fun us=>Cm.mk 13 [] 0 [] exNone [] [] us (nxz l k).pl) e))
 ·have e:cmdF l blk d k=(rulesF l blk d (k+1)).then fun us j=> .ok (Cm.mk 14 [] 0 [] exNone [] [] us (nxz l k).pl) j:=by unfold cmdF;dsimp only;rw[←hK];rfl
  exact y48 b w A n c l d k h hkn _ KN _ _ KF _ (fofC (K:=14) (by decide)) _ (.k14 _ (rusC hIn HB (fun _=>⟨hk0,hd⟩) (by omega) (z0f _ _)) (fun us hs=>fin3 hs (g:=fun us=>Cm.mk 14 [] 0 [] exNone [] [] us (nxz l k).pl) e))
 ·have e:cmdF l blk d k= .ok (Cm.mk 15 [] 0 [] exNone [] [] [] (nxz l k).pl) (k+1):=by unfold cmdF;dsimp only;rw[←hK];rfl
  exact y4n b w A n c l d k h hkn _ KN _ _ KF _ (fofC (K:=15) (by decide)) _ (.k15 (by rw[e];exact⟨rfl,rfl,fun y j h=>by injection h with h;exact h.symm⟩))
 ·have e:cmdF l blk d k= .ok (Cm.mk 16 [] 0 [] exNone [] [] [] (nxz l k).pl) (k+1):=by unfold cmdF;dsimp only;rw[←hK];rfl
  exact y4n b w A n c l d k h hkn _ KN _ _ KF _ (fofC (K:=16) (by decide)) _ (.k16 (by rw[e];exact⟨rfl,rfl,fun y j h=>by injection h with h;exact h.symm⟩))
end
end
abbrev CmdC (b:Nat) (A:OA) (n c:Nat) (l:List Tok) (d k:Nat) (R:Rz Cm):Prop:=Hid (∀ w',RdS b w' A n c l k 0→Cz 32 #[pP b,d] w' fun e w2=>
 ∃ (x:Cm) (lk:Lk),e= .returned (.agg #[x.kind,x.name,x.n,.slice lk.p x.parts.length lk.cp,x.cond.kind,x.cond.n,x.cond.name,x.cond.op,.slice lk.x x.cond.kids.length lk.cx,
  .slice lk.b x.body.length lk.cb,.slice lk.e x.els.length lk.ce,.slice lk.u x.rules.length lk.cu,x.pl])∧StepS b w' A n c l R.at R.err w2∧(∀ y j,R= .ok y j→y=x)∧(R.err=0→KidC (NwX b w'.heap.size w2.heap.size) w2 lk x))
structure CmI (b:Nat) (w:World) (A:OA) (n c:Nat) (l:List Tok) (N k0 d:Nat) (R:Rz (List Cm)) (M:Nat) (v:Value) (wr:World) (es:List XC) (k o:Nat):Prop where
 row:RoG cfC 13 41 KPC b w wr A n c l k o v es
 eq:R=(gate o k (cmdsF l M d)).then fun cs m=> .ok (es.map (·.1)++cs) m
 fuel:o=0→n<k+M∧k0≤k∧d≤16∧es.length≤k
 le:M≤N
theorem CmI.stop {b:Nat} {w wr w':World} {A:OA} {n c:Nat} {l:List Tok} {N k0 d:Nat} {R:Rz (List Cm)} {M:Nat} {v:Value} {es:List XC} {k o:Nat} (h:CmI b w A n c l N k0 d R M v wr es k o) (hk:¬ (nxo l k o).kind=1) (hb:Below wr.heap.size wr w'):RowS b w A n c l R (.returned v) w':=by
 have hR:=h.row.below monoC hb;obtain⟨A',c',rfl,hrow⟩:=x1c hR;have hoks:=h.row.cx.rd.oks;by_cases ho:o=0
 ·subst ho
  have hf:=h.fuel rfl;have hle:=h.row.cx.rd.le;obtain⟨M2,rfl⟩:∃ M2,M=M2+1:=⟨M - 1,by omega⟩
  have e1:R= .ok (es.map (·.1)) k:=by
   rw[h.eq,z0f,cmdsF,if_neg (show ¬ (nxz l k).kind=1 from hk)];show Rz.ok (es.map (·.1)++[]) k=_;rw[List.append_nil]
  rw[e1];exact⟨A',es.map (·.1),c',rfl,hR.cx.step,fun y j e=>by injection e with e;exact e.symm,fun _=>hrow rfl⟩
 ·have ho2:=hoks.resolve_left ho
  have e1:R.at=k∧R.err=o∧∀ y j,R≠ .ok y j:=by
   rw[h.eq]
   rcases ho2 with rfl | rfl <;> exact⟨rfl,rfl,fun _ _ e=>by cases e⟩
  refine⟨A',es.map (·.1),c',rfl,?_,fun y j e=>absurd e (e1.2.2 y j),fun e=>absurd (e1.2.1.symm.trans e) ho⟩;rw[e1.1,e1.2.1];exact hR.cx.step
theorem CmI.step {b:Nat} {w wr w':World} {A:OA} {n c:Nat} {l:List Tok} {N k0 d:Nat} {R:Rz (List Cm)} {M:Nat} {v:Value} {es:List XC} {k o:Nat} (h:CmI b w A n c l N k0 d R M v wr es k o) (hb:Below wr.heap.size wr w'):CmI b w A n c l N k0 d R M v w' es k o:=⟨h.row.below monoC hb,h.eq,h.fuel,h.le⟩
theorem CmI.more {b:Nat} {w wr w2 w3:World} {A:OA} {n c:Nat} {l:List Tok} {N k0 d:Nat} {R:Rz (List Cm)} {M:Nat} {v:Value} {es:List XC} {k:Nat} (h:CmI b w A n c l N k0 d R (M+1) v wr es k 0) (hk1:(nxz l k).kind=1) {x:Cm} {lk:Lk}
  (hs:StepS b wr A n c l (cmdF l (blockF l (cmdsF l M)) d k).at (cmdF l (blockF l (cmdsF l M)) d k).err w2) (hv:∀ y j,cmdF l (blockF l (cmdsF l M)) d k= .ok y j→y=x) (hk:(cmdF l (blockF l (cmdsF l M)) d k).err=0→KidC (NwX b wr.heap.size w2.heap.size) w2 lk x)
  {g cap:Nat} (hr:w3.ownsRow w.heap.size 41 13 (.slice (some ⟨g,0,none⟩) (es.length+1) cap) (es.length+1) (es.flatMap cfC++cfC (x,lk))) (o:Obj) (hg:(w2.alloc o).grownBy w3 v.ownBlock) (hvg:v.ownBlock=some g∨g=w2.heap.size+1):
  CmI b w A n c l N k0 d R M (.slice (some ⟨g,0,none⟩) (es.length+1) cap) w3 (es++[(x,lk)]) (cmdF l (blockF l (cmdsF l M)) d k).at (cmdF l (blockF l (cmdsF l M)) d k).err:=by
 have hf:=h.fuel rfl;have hlen:=h.row.cx.rd.len;have hkl:k<l.length:=z17 (by rw[hk1];decide);have hin:=y0r (z26 (z5b M)) (d:=d) hkl;refine⟨?_,?_,fun h0=>?_,by have:=h.le;omega⟩
 ·refine((h.row.call monoC hs fun _=>rfl).box monoC o).push monoC (x:=(x,lk)) (fun h0=>?_) hr hg (by simpa using hvg)
  have hown:=h.row.own
  exact((hk h0).of (w':=w2.alloc o) (fun p hp=>World.cell?_of_block (((Below.refl w2.heap.size w2).alloc nR o).block _ (by have:=hs.1.size;have:=h.row.cx.lt;have:=h.row.cx.gr.size;rcases hp with hp | hp <;> omega))) fun _ h=>h).of (fun _ _=>rfl) fun q hq=>
   OwX.of_new (g:=v.ownBlock) h.row.cx.gr.size (fun q hq=>(hown q hq).2) q (NwX.wide nR (by simp) q hq)
 ·rw[h.eq,z0f,cmdsF,if_pos hk1,Rz.then_assoc]
  refine(z1a (g:=fun i=>(cmdsF l M d i).then fun cs m=> .ok ((es++[(x,lk)]).map (·.1)++cs) m) fun y j hy=>?_).trans (z1k _ _ _ _);rw[hv y j hy,Rz.then_assoc];simp only[List.map_append,List.map_cons,List.map_nil,List.append_assoc,List.singleton_append]
  rfl
 ·obtain⟨y,j,hq⟩:=z04 h0
  have h1:=z0r hin hq;rw[hq];show n<j+M∧k0≤j∧d≤16∧(es++[(x,lk)]).length≤j;simp;omega
theorem y54 (b:Nat) (A:OA) (n c:Nat) (l:List Tok) (N k0:Nat) (hN:n<k0+N) (IH:∀ M,M<N→∀ k1,n<k1+M→RecC b A n c l (cmdsF l M) k1):RecC b A n c l (cmdsF l N) k0:=by
 intro d k o w hk hd h;have hn:=h.few;obtain⟨R,hR⟩:∃ R,R=gate o k (cmdsF l N d):=⟨_,rfl⟩;rw[←hR]
 have HS:Hid (CmI b w A n c l N k0 d R N (.slice none 0 0) w [] k o):=zz ⟨RoG.start h,by
  rw[hR]
  cases gate o k (cmdsF l N d) <;> rfl,fun h0=>by have:=hk h0;simp;omega,Nat.le_refl _⟩
 have HR:=zz hR;have KX:Hid (∀ k' o',NextC b A n c l k' o' (nxo l k' o')):=zz fun k' o'=>nextC b A n c l k' o'
 have KC:Hid (∀ M k',M+1≤N→n<k'+(M+1)→d≤16→(nxz l k').kind=1→CmdC b A n c l d k' (cmdF l (blockF l (cmdsF l M)) d k')):=zz fun M k' h1 h2 h3 h4=>zz fun w' h'=>
  x2t (z26 (z5b M)) (y64 b A n c l (cmdsF l M) (k'+1) (IH M (by omega) (k'+1) (by omega))) d k' w' h3 nR h' h4
 obtain⟨i0,hi0,hz0,hz1,hz2⟩:=info_parts infoC;have tf0:=tokF0;clear hR hk hN IH h;go_enter Tryz.func16,Tryz.ntmps16;go_wp2
 go_loopg [5] N (fun M v wr=>∃ (es:List XC) (k' o' M':Nat),Hid (M=M')∧Hid (CmI b w A n c l N k0 d R M' v wr es k' o'))
 case atStart=>exact⟨_,_,_,_,zz rfl,HS⟩
 case round=>
  obtain⟨es,k',o',M',HMM,HJ⟩:=hrel;have KN:=KX.out k' o';by_cases e1:(nxo l k' o').kind=1
  ·have ho:o'=0:=by
    by_cases ho:o'=0
    ·exact ho
    ·unfold nxo at e1;rw[if_neg ho] at e1;cases e1
   subst ho;have hf:=HJ.out.fuel rfl;obtain⟨M2,rfl⟩:∃ M2,M'=M2+1:=⟨M' - 1,by have:=HJ.out.row.cx.rd.le;omega⟩;have K3:=KC.out M2 k' HJ.out.le hf.1 hf.2.2.1 e1;have HE1:=zz e1;have HEL:Hid (es.length≤4000):=zz (by have:=HJ.out.row.cx.rd.le;omega);unfold NextC at KN;generalize nxo l k' 0=t at KN e1;rw[e1] at KN;clear hf e1;go_wp2_with (first | (go_at_call 31;go_must ((with_reducible refine(KN.out _ HJ.out.row.cx.rd).mono ?_);rintro e w3 ⟨A3,c3,rfl,hb3,hr3⟩;have HJ3:=zz (HJ.out.step hb3);clear hb3 hr3)) | (go_at_call 32;go_must ((with_reducible refine(K3.out _ HJ3.out.row.cx.rd).mono ?_);rintro e w4 ⟨x,lk,rfl,hs4,hv4,hk4⟩;have HRW:=zz ((HJ3.out.row.call monoC hs4 fun _=>rfl).box monoC (.cells #[x.kind,x.name,x.n,.slice lk.p x.parts.length lk.cp,x.cond.kind,x.cond.n,x.cond.name,x.cond.op,.slice lk.x x.cond.kids.length lk.cx,.slice lk.b x.body.length lk.cb,.slice lk.e x.els.length lk.ce,.slice lk.u x.rules.length lk.cu,x.pl] 41));have HS4:=zz hs4;have HV4:=zz hv4;have HK4:=zz hk4;clear hs4 hv4 hk4)) | (at_builtin;refine wpList_append_lies _ rfl (.tmp 10) (.tmp 14) 23 rfl w.heap.size 41 i0 (.agg #[oZ,oS,oZ,(),oZ,oZ,oS,oS,(),(),(),(),oZ]) 13 208 Tryz.underlying23 hi0 hz0 hz1 hz2 rfl (by decide) _ es.length (es.flatMap cfC) rfl HRW.out.row ⟨w4.heap.size,0,none⟩ 1 1 [x.kind,x.name,x.n,.slice lk.p x.parts.length lk.cp,x.cond.kind,x.cond.n,x.cond.name,x.cond.op,.slice lk.x x.cond.kids.length lk.cx,.slice lk.b x.body.length lk.cb,.slice lk.e x.els.length lk.ce,.slice lk.u x.rules.length lk.cu,x.pl] rfl rfl (fun j u hu=>z0k w4 41 #[x.kind,x.name,x.n,.slice lk.p x.parts.length lk.cp,x.cond.kind,x.cond.n,x.cond.name,x.cond.op,.slice lk.x x.cond.kids.length lk.cx,.slice lk.b x.body.length lk.cb,.slice lk.e x.els.length lk.ce,.slice lk.u x.rules.length lk.cu,x.pl] j u hu) (oneC (x,lk)) (by decide) (by have:=HEL.out;unfold maxLen;omega) (by have:=HEL.out;omega) HRW.out.cx.gr.size (w4.heap.size+1) (by simp) ?_;intro g cap w5 ho hg hvg hgl;have HN:=zz (HJ3.out.more HE1.out HS4.out HV4.out HK4.out ho _ hg hvg);clear ho hg hvg hgl))
   go_roundg M2
   case measure=>rw[HMM.out];exact Nat.lt_succ_self _
   case rel=>exact⟨_,_,_,_,zz rfl,HN⟩
  ·have HE1:=zz e1
   unfold NextC at KN;generalize nxo l k' o'=t at KN e1;generalize t.kind=kd at KN e1;have b1:(kd==1)=false:=by simpa using e1
   clear e1;go_wp2_with (first | (go_at_call 31;go_must ((with_reducible refine(KN.out _ HJ.out.row.cx.rd).mono ?_);rintro e w3 ⟨A3,c3,rfl,hb3,hr3⟩;have HB3:=zz hb3;clear hb3 hr3)));go_ret;exact HJ.out.stop HE1.out HB3.out
theorem y92 (b:Nat) (A:OA) (n c:Nat) (l:List Tok):∀ N k0,n<k0+N→RecC b A n c l (cmdsF l N) k0:=by
 intro N
 induction N using Nat.strongRecOn with
 | ind N ih=>exact fun k0 h=>y54 b A n c l N k0 h ih
theorem z7g (s:BA) (hs:s.size≤250):(∃ q e,scan s.data.toList=(none,q,e)∧(e=1∨e=2∨e=3))∨∃ ts,scan s.data.toList=(some ts,0,0)∧FitL ts∧ts.length≤250:=by
 have hl:s.data.toList.length≤250:=by rw[z0d];omega
 rcases y5w s.data.toList with ⟨q,e,h,he,_⟩ | ⟨out,h,h1,h2,_⟩
 ·exact .inl ⟨q,e,h,he⟩
 ·exact .inr ⟨out,h,y7w h1 h2 (by omega),by omega⟩
noncomputable def ansS (ts:List Tok) (len:Nat):List Cm × Int × Int:=match allF ts with
 | .ok xs _=>(xs,0,0)
 | .bad j d=>([],if j<ts.length then (nxz ts j).pl else len,if d then 8 else 1)
noncomputable def parS (s:Bs):List Cm × Int × Int:=match scan s with
 | (none,q,e)=>([],q,e)
 | (some ts,_,_)=>ansS ts s.length
def ParP (w:World) (r:List Cm × Int × Int) (e:Ending) (w':World):Prop:=∃ A c,e= .returned (.tuple #[.slice A r.1.length c,r.2.1,r.2.2])∧Below w.heap.size w w'∧RowC (LtX w'.heap.size) w' A r.1
theorem y3i {w:World} {A:OA} {n c:Nat} {l:List Tok} (h:RdT w.heap.size w A n l) (hf:FitL l) (hn:l.length≤250) (hG:Given w):RdS w.heap.size (w.alloc (.cells #[.slice A n c,oZ,oZ] 49)) A n c l 0 0:=by
 have hb:Below w.heap.size w (w.alloc (.cells #[.slice A n c,oZ,oZ] 49)):=bR.alloc nR _;exact⟨z1e _ _ _ 0 _ rfl,z1e _ _ _ 1 _ rfl,z1e _ _ _ 2 _ rfl,by simp[go_sem],by simp[go_sem],h.keep hb,fun w' hb'=>hG.below (hb.trans hb'),hf,Nat.zero_le _,.inl rfl,by rw[h.1];omega⟩
theorem y63 (s:BA) (q:Nat) (e:Int) (he:e=1∨e=2∨e=3) (w:World) (K:Hid (Cz 15 #[s] w (ReadT w [] q e))):Cz 6 #[s] w (ParP w ([],q,e)):=by
 have b1:(e != 0)=true:=by rcases he with rfl | rfl | rfl <;> rfl
 unfold ReadT at K;clear he;go_enter Tryz.func6,Tryz.ntmps6;go_wp2_with (go_at_call 15;go_must ((with_reducible refine(K.out).mono ?_);rintro e w1 ⟨A1,c1,rfl,hr1,hb1⟩;have HB:=zz hb1;clear hb1 hr1))
 go_ret3
 exact⟨none,0,rfl,HB.out,.inl rfl⟩
theorem y75 (s:BA) (ts:List Tok) (hf:FitL ts) (hts:ts.length≤250) (w:World) (hG:Given w) (K:Hid (Cz 15 #[s] w (ReadT w ts 0 0))):Cz 6 #[s] w (ParP w (ansS ts s.size)):=by
 have K2:Hid (∀ b A c w',RdS b w' A ts.length c ts 0 0→Cz 16 #[pP b,oZ] w' (RowS b w' A ts.length c ts (cmdsF ts (ts.length+1) 0 0))):=zz fun b A c w' h'=>
  y92 b A ts.length c ts (ts.length+1) 0 (by omega) 0 0 0 w' (fun _=>⟨Nat.le_refl _,by omega⟩) (by omega) h'
 have HF:=zz hf;have HG:=zz hG;have HT:=zz hts;obtain⟨R,hR⟩:∃ R,R=cmdsF ts (ts.length+1) 0 0:=⟨_,rfl⟩;have hA:allF ts=R.then fun x j=>if j<ts.length then .bad j false else .ok x j:=by rw[hR];rfl
 have hin:R.at≤ts.length:=by rw[hR];exact(z5b (l:=ts) (ts.length+1) 0 0 (Nat.zero_le _)).at_le
 rw[←hR] at K2;clear hR hf hG hts;unfold ReadT at K;unfold RowS at K2;obtain⟨n,hn⟩:∃ n,n=ts.length:=⟨_,rfl⟩;rw[←hn] at K K2;by_cases h1:R.at<n
 ·have hans:ansS ts s.size=([],(nxz ts R.at).pl,if R.err=0 then 1 else (R.err:Int)):=by
   cases R with
   | ok x j=>
     have h1':j<ts.length:=by rw[←hn];exact h1
     have e:allF ts= .bad j false:=hA.trans (if_pos h1');unfold ansS;rw[e];show ([],if j<ts.length then (nxz ts j).pl else (s.size:Int),_)=_;rw[if_pos h1'];rfl
   | bad j d=>
     have h1':j<ts.length:=by rw[←hn];exact h1
     have e:allF ts= .bad j d:=hA;unfold ansS;rw[e];show ([],if j<ts.length then (nxz ts j).pl else (s.size:Int),_)=_;rw[if_pos h1'];cases d <;> rfl
  rw[hans];obtain⟨t,ht⟩:∃ t,ts[R.at]?=some t:=⟨_,List.getElem?_eq_getElem (by omega)⟩;rw[z11 ht];have KR:Hid (∀ b A c,RefC b A n c ts 1 R.at R.err (if R.err=0 then 1 else R.err)):=zz fun b A c=>refC1 b A n c ts R.at R.err rfl
  have he2:¬ (if R.err=0 then 1 else R.err)=0:=by split <;> omega
  rw[show (if R.err=0 then (1:Int) else (R.err:Int))=((if R.err=0 then 1 else R.err:Nat):Int) by split <;> rfl];generalize (if R.err=0 then 1 else R.err)=o2 at KR he2 ⊢;obtain⟨b1,b2,b3,b4⟩:=z1y he2;have HTT:=zz ht;have HN:=zz hn;have hn2:n≤250:=by rw[hn];exact HT.out
  clear ht he2 hans hA hin hn;go_enter Tryz.func6,Tryz.ntmps6;go_wp2_with (first | (go_at_call 15;go_must ((with_reducible refine(K.out).mono ?_);rintro e w1 ⟨A1,c1,rfl,hr1,hb1⟩;have HS:=zz (y3i (c:=c1) (by rw[HN.out] at hr1;rw[HN.out];exact hr1) HF.out HT.out (HG.out.below hb1):RdS w1.heap.size (w1.alloc (.cells #[.slice A1 n c1,oZ,oZ] 49)) A1 n c1 ts 0 0);have HB:=zz hb1;clear hb1 hr1)) | (go_at_call 16;go_must ((with_reducible refine(K2.out _ _ _ _ HS.out).mono ?_);rintro e w2 ⟨A2,xs,c2,rfl,hs2,hv2,hr2⟩;have HC:=zz ((Cx.start HS.out).call hs2);obtain⟨d0,d1,d2,d3,d4⟩:=HC.out.rd.five;clear hs2 hv2 hr2)) | (go_at_call 17;go_must ((with_reducible refine((KR.out _ _ _).out _ HC.out.rd).mono ?_);rintro e w3 ⟨rfl,hs3⟩;have HD:=zz (HC.out.call hs3);obtain⟨d0,d1,d2,d3,d4⟩:=HD.out.rd.five;obtain⟨ad,A',c',rfl,h5,_⟩:=HD.out.rd.row.at_ HTT.out;have y4:=h5.2.2.2.2;clear hs3 h5)));go_quiet (fail);go_wp2
  go_ret3
  exact⟨none,0,rfl,HB.out.trans (((z0b w1 _).trans (HD.out.low.trans (z0e bR _))).mono HB.out.size),.inl rfl⟩
 ·have h2:R.at=n:=by omega
  have b5:¬ (R.at:Int)<n:=by omega
  have HN:=zz hn;have H2:=zz h2;by_cases h0:R.err=0
  ·obtain⟨xs0,j0,hx⟩:=z04 h0
   have hans:ansS ts s.size=(xs0,0,0):=by
    have e:allF ts= .ok xs0 j0:=by
     rw[hA,hx];exact if_neg (by rw[hx] at h1;rw[←hn];exact h1)
    unfold ansS;rw[e]
   rw[hans];have HX:=zz hx;have H0:=zz h0;obtain⟨b1,b2,b3,b4⟩:=eqI_t h0;clear hans hA hin hn h2 hx h1 h0;go_enter Tryz.func6,Tryz.ntmps6;go_wp2_with (first | (go_at_call 15;go_must ((with_reducible refine(K.out).mono ?_);rintro e w1 ⟨A1,c1,rfl,hr1,hb1⟩;have HS:=zz (y3i (c:=c1) (by rw[HN.out] at hr1;rw[HN.out];exact hr1) HF.out HT.out (HG.out.below hb1):RdS w1.heap.size (w1.alloc (.cells #[.slice A1 n c1,oZ,oZ] 49)) A1 n c1 ts 0 0);have HB:=zz hb1;clear hb1 hr1)) | (go_at_call 16;go_must ((with_reducible refine(K2.out _ _ _ _ HS.out).mono ?_);rintro e w2 ⟨A2,xs,c2,rfl,hs2,hv2,hr2⟩;have HC:=zz ((Cx.start HS.out).call hs2);have HV2:=zz hv2;have HR2:=zz hr2;obtain⟨d0,d1,d2,d3,d4⟩:=HC.out.rd.five;clear hs2 hv2 hr2)))
   go_ret3
   have hv:=HV2.out xs0 j0 HX.out;subst hv
   exact⟨A2,c2,rfl,HB.out.trans (((z0b w1 _).trans HC.out.low).mono HB.out.size),(HR2.out H0.out).of (fun _ _=>rfl) fun q hq=>by
    have:=HC.out.gr.size;have:=HC.out.lt;show q<w2.heap.size
    rcases hq with hq | hq <;> omega⟩
  ·have hans:ansS ts s.size=([],(s.size:Int),(R.err:Int)):=by
    have e:∃ d,allF ts= .bad n d∧(R.err:Int)=if d then 8 else 1:=by
     cases R with
     | ok x j=>exact absurd rfl h0
     | bad j d=>exact⟨d,by rw[←h2];exact hA,by cases d <;> rfl⟩
    obtain⟨d,e,e2⟩:=e;unfold ansS;rw[e,e2];show ([],if n<ts.length then (nxz ts n).pl else (s.size:Int),_)=_;rw[if_neg (by omega)]
   rw[hans];obtain⟨b1,b2,b3,b4⟩:=z1y h0;have H0:=zz h0;clear hans hA hin hn h2 h1 h0;go_enter Tryz.func6,Tryz.ntmps6;go_wp2_with (first | (go_at_call 15;go_must ((with_reducible refine(K.out).mono ?_);rintro e w1 ⟨A1,c1,rfl,hr1,hb1⟩;have HS:=zz (y3i (c:=c1) (by rw[HN.out] at hr1;rw[HN.out];exact hr1) HF.out HT.out (HG.out.below hb1):RdS w1.heap.size (w1.alloc (.cells #[.slice A1 n c1,oZ,oZ] 49)) A1 n c1 ts 0 0);have HB:=zz hb1;clear hb1 hr1)) | (go_at_call 16;go_must ((with_reducible refine(K2.out _ _ _ _ HS.out).mono ?_);rintro e w2 ⟨A2,xs,c2,rfl,hs2,hv2,hr2⟩;have HC:=zz ((Cx.start HS.out).call hs2);have HV2:=zz hv2;have HR2:=zz hr2;obtain⟨d0,d1,d2,d3,d4⟩:=HC.out.rd.five;clear hs2 hv2 hr2)))
   trace_state
   go_quiet (fail);go_wp2
   go_ret3
   exact⟨none,0,rfl,HB.out.trans (((z0b w1 _).trans (HC.out.low.trans (z0e bR _))).mono HB.out.size),.inl rfl⟩
theorem z5r (s:BA) (hs:s.size≤250) (w:World) (hG:Given w):Cz 6 #[s] w (ParP w (parS s.data.toList)):=by
 rcases z7g s hs with ⟨q,e,h,he⟩ | ⟨ts,h,hf,hl⟩
 ·have e1:parS s.data.toList=([],(q:Int),e):=by unfold parS;rw[h]
  rw[e1];exact y63 s q e he w (zz (y1j s (by omega) none q e [] rfl h w hG))
 ·have e1:parS s.data.toList=ansS ts s.size:=by unfold parS;rw[h];show ansS ts s.data.toList.length=_;rw[z0d]
  rw[e1];exact y75 s ts hf hl w hG (zz (y1j s (by omega) (some ts) 0 0 ts rfl h w hG))
mutual
def stC:Cm→Cm
 | .mk k nm n ps x b e u _=> .mk k nm n ps x (stCL b) (stCL e) (stRL u) 0
def stR:Ru→Ru
 | .mk k q pk pt b _=> .mk k q pk pt (stCL b) 0
def stCL:List Cm→List Cm
 | []=>[]
 | c::cs=>stC c::stCL cs
def stRL:List Ru→List Ru
 | []=>[]
 | r::rs=>stR r::stRL rs
end
theorem z3k:∀ l:List Cm,stCL l=l.map stC
 | []=>by rw[stCL];rfl
 | c::cs=>by rw[stCL,z3k cs];rfl
theorem z9r:∀ l:List Ru,stRL l=l.map stR
 | []=>by rw[stRL];rfl
 | c::cs=>by rw[stRL,z9r cs];rfl
theorem y7x {k n p k2 n2 p2:Int} {nm nm2:Bs} {ps ps2:List Pt} {x x2:Ex} {b e b2 e2:List Cm} {u u2:List Ru}:stC (.mk k nm n ps x b e u p)=stC (.mk k2 nm2 n2 ps2 x2 b2 e2 u2 p2) ↔
  k=k2∧nm=nm2∧n=n2∧ps=ps2∧x=x2∧b.map stC=b2.map stC∧e.map stC=e2.map stC∧u.map stR=u2.map stR:=by
 rw[stC,stC,z3k,z3k,z3k,z3k,z9r,z9r]
 constructor
 ·intro h;injection h with h1 h2 h3 h4 h5 h6 h7 h8;exact⟨h1,h2,h3,h4,h5,h6,h7,h8⟩
 ·rintro⟨rfl,rfl,rfl,rfl,rfl,h6,h7,h8⟩;rw[h6,h7,h8]
theorem z9b {k q pk p k2 q2 pk2 p2:Int} {pt pt2:Bs} {b b2:List Cm}:stR (.mk k q pk pt b p)=stR (.mk k2 q2 pk2 pt2 b2 p2) ↔ k=k2∧q=q2∧(pk=pk2∧pt=pt2)∧b.map stC=b2.map stC:=by
 rw[stR,stR,z3k,z3k]
 constructor
 ·intro h;injection h with h1 h2 h3 h4 h5;exact⟨h1,h2,⟨h3,h4⟩,h5⟩
 ·rintro⟨rfl,rfl,⟨rfl,rfl⟩,h⟩;rw[h]
mutual
inductive FitC:Cm→Prop where
 | mk {k nm n ps x b e u p}:nm.length≤1000000→ps.length≤100000→(∀ q∈ps,q.1.length≤100000∧q.2.length≤100000)→sizeX x≤1000000→nmX x≤1000000→b.length≤1000000→e.length≤1000000→u.length≤1000000→
   (∀ c∈b,FitC c)→(∀ c∈e,FitC c)→(∀ r∈u,FitR r)→FitC (.mk k nm n ps x b e u p)
inductive FitR:Ru→Prop where
 | mk {k q pk pt b p}:pt.length≤1000000→b.length≤1000000→(∀ c∈b,FitC c)→FitR (.mk k q pk pt b p)
end
theorem x25:Tryz.prog.underlying 63=some (.struct (Tryz.prog.fieldsOf 63)):=by kernel_rfl
theorem heldP:Tryz.prog.stoodInHeld 63=false:=by kernel_rfl
theorem y9e:(Tryz.prog.fieldsOf 63).toList.map (fun f=>(f.name,f.type,f.offset))=[("Kind",3,0),("Text",9,1)]:=by kernel_rfl
theorem y40 (x x':Int) (y y':BA) (w:World):(binOp .eql 63 (.agg #[x,y]) (.agg #[x',y'])).run Tryz.prog w= .ok (.bool (x==x' && y.toList==y'.toList)) w:=by
 have hf:=y9e;rw[run_eql_struct,run_equalIn_struct w 9999 63 _ _ x25 heldP];generalize (Tryz.prog.fieldsOf 63).toList=L at hf ⊢
 rcases L with _ | ⟨f,_ | ⟨g,_ | ⟨h,L⟩⟩⟩
 ·simp at hf
 ·simp at hf
 ·simp only[List.map_cons,List.map_nil,List.cons.injEq,Prod.mk.injEq,and_true] at hf
  obtain⟨⟨f1,f2,f3⟩,⟨g1,g2,g3⟩⟩:=hf;by_cases e1:(x==x')=true
  ·by_cases e2:(y.toList==y'.toList)=true
   ·simp[Op.eqFields,f1,f2,f3,g1,g2,g3,go_sem,run_equalIn_int _ 9998 3 _ _ _ _ Tryz.underlying3,run_equalIn_string _ 9998 9 _ _ Tryz.underlying9,e1,e2]
   ·simp[Op.eqFields,f1,f2,f3,g1,g2,g3,go_sem,run_equalIn_int _ 9998 3 _ _ _ _ Tryz.underlying3,run_equalIn_string _ 9998 9 _ _ Tryz.underlying9,e1,e2]
  ·simp[Op.eqFields,f1,f2,f3,g1,g2,g3,go_sem,run_equalIn_int _ 9998 3 _ _ _ _ Tryz.underlying3,run_equalIn_string _ 9998 9 _ _ Tryz.underlying9,e1]
 ·simp at hf
theorem x2j (x x':Int) (y y':BA) (w:World):(binOp .neq 63 (.agg #[x,y]) (.agg #[x',y'])).run Tryz.prog w= .ok (.bool (!(x==x' && y.toList==y'.toList))) w:=by
 have hf:=y9e;rw[run_neq_struct,run_equalIn_struct w 9999 63 _ _ x25 heldP];generalize (Tryz.prog.fieldsOf 63).toList=L at hf ⊢
 rcases L with _ | ⟨f,_ | ⟨g,_ | ⟨h,L⟩⟩⟩
 ·simp at hf
 ·simp at hf
 ·simp only[List.map_cons,List.map_nil,List.cons.injEq,Prod.mk.injEq,and_true] at hf
  obtain⟨⟨f1,f2,f3⟩,⟨g1,g2,g3⟩⟩:=hf;by_cases e1:(x==x')=true
  ·by_cases e2:(y.toList==y'.toList)=true
   ·simp[Op.eqFields,f1,f2,f3,g1,g2,g3,go_sem,run_equalIn_int _ 9998 3 _ _ _ _ Tryz.underlying3,run_equalIn_string _ 9998 9 _ _ Tryz.underlying9,e1,e2]
   ·simp[Op.eqFields,f1,f2,f3,g1,g2,g3,go_sem,run_equalIn_int _ 9998 3 _ _ _ _ Tryz.underlying3,run_equalIn_string _ 9998 9 _ _ Tryz.underlying9,e1,e2]
  ·simp[Op.eqFields,f1,f2,f3,g1,g2,g3,go_sem,run_equalIn_int _ 9998 3 _ _ _ _ Tryz.underlying3,run_equalIn_string _ 9998 9 _ _ Tryz.underlying9,e1]
 ·simp at hf
theorem y8d (A A':OA) (n n' c c':Nat) (ps qs:List Pt) (w:World) (h:Rd w.heap.size w A n ps) (h':Rd w.heap.size w A' n' qs) (hmax:n≤1000000):
  Cz 38 #[.slice A n c,.slice A' n' c'] w fun e w'=>e= .returned (.bool (eqB ps qs))∧Below w.heap.size w w':=by
 by_cases hnn:n=n'
 ·subst hnn
  obtain⟨v,hv⟩:∃ v,v=eqB ps qs:=⟨_,rfl⟩;rw[←hv];have HV:=zz hv;have HN:=zz h.1;have HN':=zz h'.1;have HR:=zz h;have HR':=zz h';have b1:((n:Int) != (n:Int))=false:=by simp
  clear h h' hv;go_enter Tryz.func38,Tryz.ntmps38;go_wp2
  go_loopw [13,5] (fun i _ wr=>∃ (k m:Nat),k≤n∧i= .int .i64 k∧ps.take k=qs.take k∧wr=w.drewN m) (fun i _ _=>n - (intOf i).toNat)
  case atStart=>exact⟨0,0,by omega,rfl,rfl,rfl⟩
  case round=>
   obtain⟨k,m,hk,rfl,htk,rfl⟩:=hrel;have HT:=zz htk;clear htk;by_cases a:k<n
   ·obtain⟨ad,rfl,hr⟩:=HR.out.2 (by omega)
    obtain⟨ad',rfl,hr'⟩:=HR'.out.2 (by omega);obtain⟨p,hp⟩:∃ p,ps[k]?=some p:=⟨_,List.getElem?_eq_getElem (by have:=HN.out;omega)⟩;obtain⟨q,hq⟩:∃ q,qs[k]?=some q:=⟨_,List.getElem?_eq_getElem (by have:=HN'.out;omega)⟩;obtain⟨c0,c1⟩:=hr.at_ hp
    obtain⟨d0,d1⟩:=hr'.at_ hq
    have hcmp:=fun W:World=>x21 p q W
    by_cases e:p=q
    ·have HX:Hid (ps.take (k+1)=qs.take (k+1)):=zz (by
      rw[←e] at hq;exact z3l HT.out hp hq)
     rw[decide_eq_true e] at hcmp;simp only[Bool.not_true] at hcmp;clear hr hr' hp hq e;go_wp2;go_quiet (fail);go_wp2
     go_roundw
     case rel=>exact⟨k+1,_,by omega,by go_num,HX.out,rfl⟩
     case measure=>simp[intOf];omega
    ·have HX:Hid (v=false):=zz (by rw[HV.out];exact z0x (z4m hp hq e))
     rw[decide_eq_false e] at hcmp;simp only[Bool.not_false] at hcmp;clear hr hr' hp hq e;go_wp2;go_quiet (fail);go_wp2;go_ret;exact⟨z0c HX.out.symm,z0e (z0e bR _) _⟩
   ·have HX:Hid (v=true):=zz (by
     have h1:=HT.out;rw[List.take_of_length_le (by have:=HN.out;omega),List.take_of_length_le (by have:=HN'.out;omega)] at h1;rw[HV.out];exact z0v h1)
    go_wp2;go_ret;exact⟨z0c HX.out.symm,z0e bR m⟩
 ·have hne:eqB ps qs=false:=z0x (by rintro rfl;exact hnn (h.1.trans h'.1.symm))
  rw[hne];have b1:((n:Int) != (n':Int))=true:=by simp;omega
  have b2:(n != n')=true:=by simpa using hnn
  clear h h' hne hnn;go_enter Tryz.func38,Tryz.ntmps38;go_wp2;go_ret;exact⟨rfl,Below.refl _ _⟩
theorem LieL.at6 {w:World} {a:Addr} {v0 v1 v2 v3 v4 v5:Value} (h:LieL w a [v0,v1,v2,v3,v4,v5]):w.cell? a=some v0∧w.cell? ⟨a.block,a.off+1,none⟩=some v1∧w.cell? ⟨a.block,a.off+2,none⟩=some v2∧w.cell? ⟨a.block,a.off+3,none⟩=some v3∧w.cell? ⟨a.block,a.off+4,none⟩=some v4∧w.cell? ⟨a.block,a.off+5,none⟩=some v5:=by
 have h0:=h 0 _ rfl;rw[show a.add 0=a by simp[Addr.add]] at h0;have g:∀ i,0<i→a.add i=⟨a.block,a.off+i,none⟩:=fun i hi=>by unfold Addr.add;rw[if_neg (by omega)]
 exact⟨h0,by rw[←g 1 (by decide)];exact h 1 _ rfl,by rw[←g 2 (by decide)];exact h 2 _ rfl,by rw[←g 3 (by decide)];exact h 3 _ rfl,by rw[←g 4 (by decide)];exact h 4 _ rfl,by rw[←g 5 (by decide)];exact h 5 _ rfl⟩
theorem LieL.at13 {w:World} {a:Addr} {v0 v1 v2 v3 v4 v5 v6 v7 v8 v9 v10 v11 v12:Value} (h:LieL w a [v0,v1,v2,v3,v4,v5,v6,v7,v8,v9,v10,v11,v12]):w.cell? a=some v0∧w.cell? ⟨a.block,a.off+1,none⟩=some v1∧w.cell? ⟨a.block,a.off+2,none⟩=some v2∧w.cell? ⟨a.block,a.off+3,none⟩=some v3∧w.cell? ⟨a.block,a.off+4,none⟩=some v4∧w.cell? ⟨a.block,a.off+5,none⟩=some v5∧w.cell? ⟨a.block,a.off+6,none⟩=some v6∧w.cell? ⟨a.block,a.off+7,none⟩=some v7∧w.cell? ⟨a.block,a.off+8,none⟩=some v8∧w.cell? ⟨a.block,a.off+9,none⟩=some v9∧w.cell? ⟨a.block,a.off+10,none⟩=some v10∧w.cell? ⟨a.block,a.off+11,none⟩=some v11∧w.cell? ⟨a.block,a.off+12,none⟩=some v12:=by
 have h0:=h 0 _ rfl;rw[show a.add 0=a by simp[Addr.add]] at h0;have g:∀ i,0<i→a.add i=⟨a.block,a.off+i,none⟩:=fun i hi=>by unfold Addr.add;rw[if_neg (by omega)]
 exact⟨h0,by rw[←g 1 (by decide)];exact h 1 _ rfl,by rw[←g 2 (by decide)];exact h 2 _ rfl,by rw[←g 3 (by decide)];exact h 3 _ rfl,by rw[←g 4 (by decide)];exact h 4 _ rfl,by rw[←g 5 (by decide)];exact h 5 _ rfl,by rw[←g 6 (by decide)];exact h 6 _ rfl,by rw[←g 7 (by decide)];exact h 7 _ rfl,by rw[←g 8 (by decide)];exact h 8 _ rfl,by rw[←g 9 (by decide)];exact h 9 _ rfl,by rw[←g 10 (by decide)];exact h 10 _ rfl,by rw[←g 11 (by decide)];exact h 11 _ rfl,by rw[←g 12 (by decide)];exact h 12 _ rfl⟩
theorem z4p {w wr:World} {A:OA} {b:List Cm} {x:Cm} {j:Nat} (h:RowC (LtX w.heap.size) w A b) (hb:Below w.heap.size w wr) (hx:b[j]?=some x):
  ∃ ad lk,A=some ad∧ad.block<w.heap.size∧LieL wr (ad.add (j * 13)) (cellsC x lk)∧KidC (LtX w.heap.size) w lk x:=by
 rcases h with h | ⟨ad,rfl,hp,hl⟩
 ·simp[h] at hx
 ·obtain⟨lk,h1,h2⟩:=z2o.1 hl j x hx
  rw[Nat.zero_add] at h1;exact⟨ad,lk,rfl,hp,h1.keep fun p hpb=>hb.cell (by rw[hpb,z0p];exact hp),h2⟩
theorem z4l {w wr:World} {A:OA} {b:List Ru} {x:Ru} {j:Nat} (h:RowU (LtX w.heap.size) w A b) (hb:Below w.heap.size w wr) (hx:b[j]?=some x):
  ∃ ad A' c',A=some ad∧ad.block<w.heap.size∧LieL wr (ad.add (j * 6)) (cellsR x A' c')∧KidR (LtX w.heap.size) w A' x:=by
 rcases h with h | ⟨ad,rfl,hp,hl⟩
 ·simp[h] at hx
 ·obtain⟨A',c',h1,h2⟩:=z2r.1 hl j x hx
  rw[Nat.zero_add] at h1;exact⟨ad,A',c',rfl,hp,h1.keep fun p hpb=>hb.cell (by rw[hpb,z0p];exact hp),h2⟩
def PC (x:Cm):Prop:=∀ (y:Cm) (lk lk':Lk) (w:World),KidC (LtX w.heap.size) w lk x→KidC (LtX w.heap.size) w lk' y→FitC x→FitC y→
 Cz 26 #[valC x lk,valC y lk'] w fun e w'=>e= .returned (.bool (eqB (stC x) (stC y)))∧Below w.heap.size w w'
def PR (x:Ru):Prop:=∀ (y:Ru) (A A':OA) (c c':Nat) (w:World),KidR (LtX w.heap.size) w A x→KidR (LtX w.heap.size) w A' y→FitR x→FitR y→
 Cz 41 #[valR x A c,valR y A' c'] w fun e w'=>e= .returned (.bool (eqB (stR x) (stR y)))∧Below w.heap.size w w'
theorem z2u {α β:Type} {f:α→β} {l:List α} {j:Nat} {x:α} (h:l[j]?=some x):(l.map f)[j]?=some (f x):=by rw[List.getElem?_map,h];rfl
theorem x1q (ks ks2:List Cm) (ih:∀ x∈ks,PC x) (A A':OA) (c c':Nat) (w:World) (hk:RowC (LtX w.heap.size) w A ks) (hk':RowC (LtX w.heap.size) w A' ks2) (hs:∀ x∈ks,FitC x) (hs':∀ x∈ks2,FitC x) (hm9:ks.length≤1000000):
  Cz 25 #[.slice A ks.length c,.slice A' ks2.length c',.func (.func 26) #[] #[]] w fun e w'=>e= .returned (.bool (eqB (ks.map stC) (ks2.map stC)))∧Below w.heap.size w w':=by
 obtain⟨v,hv⟩:∃ v,v=eqB (ks.map stC) (ks2.map stC):=⟨_,rfl⟩;rw[←hv];have HV:=zz hv;obtain⟨m,hm⟩:∃ m,m=ks.length:=⟨_,rfl⟩;obtain⟨m2,hm2⟩:∃ m,m=ks2.length:=⟨_,rfl⟩;rw[←hm] at hm9;rw[←hm,←hm2];have HK:=zz hk;have HK':=zz hk';have HI:=zz ih;have HS:=zz hs;have HS':=zz hs';have HM:=zz hm;have HM':=zz hm2;clear hv ih hk hk' hs hs' hm hm2;by_cases f6:m=m2
 ·have g6:((m:Int) != (m2:Int))=false:=by simp[f6]
  have g7:(m != m2)=false:=by simp[f6]
  subst f6;go_enter Tryz.func25,Tryz.ntmps25;go_wp2
  go_loopw [17] (fun i wr=>∃ j:Nat,j≤m∧i= .int .i64 j∧(ks.map stC).take j=(ks2.map stC).take j∧Below w.heap.size w wr) (fun i _=>m - (intOf i).toNat)
  case atStart=>exact⟨0,by omega,rfl,rfl,Below.refl _ _⟩
  case round=>
   obtain⟨j,hj,rfl,ht,hb⟩:=hrel;have HB:=zz hb;have HT:=zz ht;clear ht;by_cases a:j<m
   ·obtain⟨r,hr⟩:=z0t HM.out a
    obtain⟨r',hr'⟩:=z0t HM'.out a;obtain⟨ad,lk,rfl,hp,h9,hkr⟩:=z4p HK.out hb hr;obtain⟨ad',lk',rfl,hp',h9',hkr'⟩:=z4p HK'.out hb hr';have hmem:=List.mem_of_getElem? hr;have hmem':=List.mem_of_getElem? hr';obtain⟨v2,hv2⟩:∃ v2,v2=eqB (stC r) (stC r'):=⟨_,rfl⟩
    have K:∀ w2,Below wr.heap.size wr w2→Cz 26 #[.agg #[r.kind,r.name,r.n,.slice lk.p r.parts.length lk.cp,r.cond.kind,r.cond.n,r.cond.name,r.cond.op,.slice lk.x r.cond.kids.length lk.cx,.slice lk.b r.body.length lk.cb,.slice lk.e r.els.length lk.ce,.slice lk.u r.rules.length lk.cu,r.pl],.agg #[r'.kind,r'.name,r'.n,.slice lk'.p r'.parts.length lk'.cp,r'.cond.kind,r'.cond.n,r'.cond.name,r'.cond.op,.slice lk'.x r'.cond.kids.length lk'.cx,.slice lk'.b r'.body.length lk'.cb,.slice lk'.e r'.els.length lk'.ce,.slice lk'.u r'.rules.length lk'.cu,r'.pl]] w2 fun e w'=>e= .returned (.bool v2)∧Below w2.heap.size w2 w':=fun w2 h2=>by
     rw[hv2];exact HI.out r hmem r' lk lk' w2 (hkr.of (fun _ h=>(hb.trans (h2.mono hb.size)).cell h) fun _ h=>Nat.lt_of_lt_of_le h (hb.trans (h2.mono hb.size)).size) (hkr'.of (fun _ h=>(hb.trans (h2.mono hb.size)).cell h) fun _ h=>Nat.lt_of_lt_of_le h (hb.trans (h2.mono hb.size)).size) (HS.out r hmem) (HS'.out r' hmem')
    have HV2:=zz hv2;have HR:=zz (z2u (f:=stC) hr);have HR':=zz (z2u (f:=stC) hr');have hbt:(ad.add (j * 13)).block<wr.heap.size:=by rw[z0p];have:=hb.size;omega
    have hbt':(ad'.add (j * 13)).block<wr.heap.size:=by rw[z0p];have:=hb.size;omega
    clear hr hr' hv2 hkr hkr' hmem hmem';obtain⟨c0,c1,c2,c3,c4,c5,c6,c7,c8,c9,c10,c11,c12⟩:=h9.at13;obtain⟨d0,d1,d2,d3,d4,d5,d6,d7,d8,d9,d10,d11,d12⟩:=h9'.at13;have HKC:Hid (∀ o1 o2,Cz 26 #[.agg #[r.kind,r.name,r.n,.slice lk.p r.parts.length lk.cp,r.cond.kind,r.cond.n,r.cond.name,r.cond.op,.slice lk.x r.cond.kids.length lk.cx,.slice lk.b r.body.length lk.cb,.slice lk.e r.els.length lk.ce,.slice lk.u r.rules.length lk.cu,r.pl],.agg #[r'.kind,r'.name,r'.n,.slice lk'.p r'.parts.length lk'.cp,r'.cond.kind,r'.cond.n,r'.cond.name,r'.cond.op,.slice lk'.x r'.cond.kids.length lk'.cx,.slice lk'.b r'.body.length lk'.cb,.slice lk'.e r'.els.length lk'.ce,.slice lk'.u r'.rules.length lk'.cu,r'.pl]] ((wr.alloc o1).alloc o2) fun e w'=>e= .returned (.bool v2)∧Below wr.heap.size wr w'):=zz fun o1 o2=>(K _ (z0a wr o1 o2)).mono fun e w' ⟨he,h2⟩=>⟨he,(z0a wr o1 o2).trans (h2.mono (by simp;omega))⟩
    clear K hb hp hp' h9 h9'
    cases v2 with
    | true=>
      have HX:Hid ((ks.map stC).take (j+1)=(ks2.map stC).take (j+1)):=zz (by
       have h8:=y41 HV2.out.symm;have h7:=HR.out;rw[h8] at h7;exact z3l HT.out h7 HR'.out)
      go_wp2_with (go_at_call 26;go_must ((with_reducible refine(HKC.out _ _).mono ?_);rintro e w4 ⟨rfl,hb4⟩))
      go_roundw
      case rel=>exact⟨j+1,by omega,by go_num,HX.out,HB.out.trans (hb4.mono HB.out.size)⟩
      case measure=>simp[intOf];omega
    | false=>
      have HX2:Hid (v=false):=zz (by rw[HV.out];exact z0x (z4m HR.out HR'.out (z9u HV2.out.symm)));go_wp2_with (go_at_call 26;go_must ((with_reducible refine(HKC.out _ _).mono ?_);rintro e w4 ⟨rfl,hb4⟩));go_ret;exact⟨z0c HX2.out.symm,HB.out.trans (hb4.mono HB.out.size)⟩
   ·have HX2:Hid (v=true):=zz (by
     rw[HV.out];have:=HT.out;rw[List.take_of_length_le (by rw[List.length_map];have:=HM.out;omega),List.take_of_length_le (by rw[List.length_map];have:=HM'.out;omega)] at this;exact z0v this)
    clear hb;go_wp2;go_ret;exact⟨z0c HX2.out.symm,HB.out⟩
 ·have HX:Hid (v=false):=zz (by rw[HV.out];exact z0x (fun h=>f6 (by have:=congrArg List.length h;rw[List.length_map,List.length_map] at this;rw[HM.out,HM'.out,this])))
  have g6:((m:Int) != (m2:Int))=true:=by simp;omega
  have g7:(m != m2)=true:=by simp[f6]
  clear f6;go_enter Tryz.func25,Tryz.ntmps25;go_wp2;go_ret;exact⟨z0c HX.out.symm,Below.refl _ _⟩
theorem x0u (ks ks2:List Ru) (ih:∀ x∈ks,PR x) (A A':OA) (c c':Nat) (w:World) (hk:RowU (LtX w.heap.size) w A ks) (hk':RowU (LtX w.heap.size) w A' ks2) (hs:∀ x∈ks,FitR x) (hs':∀ x∈ks2,FitR x) (hm9:ks.length≤1000000):
  Cz 40 #[.slice A ks.length c,.slice A' ks2.length c',.func (.func 41) #[] #[]] w fun e w'=>e= .returned (.bool (eqB (ks.map stR) (ks2.map stR)))∧Below w.heap.size w w':=by
 obtain⟨v,hv⟩:∃ v,v=eqB (ks.map stR) (ks2.map stR):=⟨_,rfl⟩;rw[←hv];have HV:=zz hv;obtain⟨m,hm⟩:∃ m,m=ks.length:=⟨_,rfl⟩;obtain⟨m2,hm2⟩:∃ m,m=ks2.length:=⟨_,rfl⟩;rw[←hm] at hm9;rw[←hm,←hm2];have HK:=zz hk;have HK':=zz hk';have HI:=zz ih;have HS:=zz hs;have HS':=zz hs';have HM:=zz hm;have HM':=zz hm2;clear hv ih hk hk' hs hs' hm hm2;by_cases f6:m=m2
 ·have g6:((m:Int) != (m2:Int))=false:=by simp[f6]
  have g7:(m != m2)=false:=by simp[f6]
  subst f6;go_enter Tryz.func40,Tryz.ntmps40;go_wp2
  go_loopw [17] (fun i wr=>∃ j:Nat,j≤m∧i= .int .i64 j∧(ks.map stR).take j=(ks2.map stR).take j∧Below w.heap.size w wr) (fun i _=>m - (intOf i).toNat)
  case atStart=>exact⟨0,by omega,rfl,rfl,Below.refl _ _⟩
  case round=>
   obtain⟨j,hj,rfl,ht,hb⟩:=hrel;have HB:=zz hb;have HT:=zz ht;clear ht;by_cases a:j<m
   ·obtain⟨r,hr⟩:=z0t HM.out a
    obtain⟨r',hr'⟩:=z0t HM'.out a;obtain⟨ad,B,k,rfl,hp,h9,hkr⟩:=z4l HK.out hb hr;obtain⟨ad',B',k',rfl,hp',h9',hkr'⟩:=z4l HK'.out hb hr';have hmem:=List.mem_of_getElem? hr;have hmem':=List.mem_of_getElem? hr';obtain⟨v2,hv2⟩:∃ v2,v2=eqB (stR r) (stR r'):=⟨_,rfl⟩
    have K:∀ w2,Below wr.heap.size wr w2→Cz 41 #[.agg #[r.kind,r.peer,r.pk,r.pt,.slice B r.body.length k,r.pl],.agg #[r'.kind,r'.peer,r'.pk,r'.pt,.slice B' r'.body.length k',r'.pl]] w2 fun e w'=>e= .returned (.bool v2)∧Below w2.heap.size w2 w':=fun w2 h2=>by
     rw[hv2];exact HI.out r hmem r' B B' k k' w2 (hkr.of (fun _ h=>(hb.trans (h2.mono hb.size)).cell h) fun _ h=>Nat.lt_of_lt_of_le h (hb.trans (h2.mono hb.size)).size) (hkr'.of (fun _ h=>(hb.trans (h2.mono hb.size)).cell h) fun _ h=>Nat.lt_of_lt_of_le h (hb.trans (h2.mono hb.size)).size) (HS.out r hmem) (HS'.out r' hmem')
    have HV2:=zz hv2;have HR:=zz (z2u (f:=stR) hr);have HR':=zz (z2u (f:=stR) hr');have hbt:(ad.add (j * 6)).block<wr.heap.size:=by rw[z0p];have:=hb.size;omega
    have hbt':(ad'.add (j * 6)).block<wr.heap.size:=by rw[z0p];have:=hb.size;omega
    clear hr hr' hv2 hkr hkr' hmem hmem';obtain⟨c0,c1,c2,c3,c4,c5⟩:=h9.at6;obtain⟨d0,d1,d2,d3,d4,d5⟩:=h9'.at6;have HKC:Hid (∀ o1 o2,Cz 41 #[.agg #[r.kind,r.peer,r.pk,r.pt,.slice B r.body.length k,r.pl],.agg #[r'.kind,r'.peer,r'.pk,r'.pt,.slice B' r'.body.length k',r'.pl]] ((wr.alloc o1).alloc o2) fun e w'=>e= .returned (.bool v2)∧Below wr.heap.size wr w'):=zz fun o1 o2=>(K _ (z0a wr o1 o2)).mono fun e w' ⟨he,h2⟩=>⟨he,(z0a wr o1 o2).trans (h2.mono (by simp;omega))⟩
    clear K hb hp hp' h9 h9'
    cases v2 with
    | true=>
      have HX:Hid ((ks.map stR).take (j+1)=(ks2.map stR).take (j+1)):=zz (by
       have h8:=y41 HV2.out.symm;have h7:=HR.out;rw[h8] at h7;exact z3l HT.out h7 HR'.out)
      go_wp2_with (go_at_call 41;go_must ((with_reducible refine(HKC.out _ _).mono ?_);rintro e w4 ⟨rfl,hb4⟩))
      go_roundw
      case rel=>exact⟨j+1,by omega,by go_num,HX.out,HB.out.trans (hb4.mono HB.out.size)⟩
      case measure=>simp[intOf];omega
    | false=>
      have HX2:Hid (v=false):=zz (by rw[HV.out];exact z0x (z4m HR.out HR'.out (z9u HV2.out.symm)));go_wp2_with (go_at_call 41;go_must ((with_reducible refine(HKC.out _ _).mono ?_);rintro e w4 ⟨rfl,hb4⟩));go_ret;exact⟨z0c HX2.out.symm,HB.out.trans (hb4.mono HB.out.size)⟩
   ·have HX2:Hid (v=true):=zz (by
     rw[HV.out];have:=HT.out;rw[List.take_of_length_le (by rw[List.length_map];have:=HM.out;omega),List.take_of_length_le (by rw[List.length_map];have:=HM'.out;omega)] at this;exact z0v this)
    clear hb;go_wp2;go_ret;exact⟨z0c HX2.out.symm,HB.out⟩
 ·have HX:Hid (v=false):=zz (by rw[HV.out];exact z0x (fun h=>f6 (by have:=congrArg List.length h;rw[List.length_map,List.length_map] at this;rw[HM.out,HM'.out,this])))
  have g6:((m:Int) != (m2:Int))=true:=by simp;omega
  have g7:(m != m2)=true:=by simp[f6]
  clear f6;go_enter Tryz.func40,Tryz.ntmps40;go_wp2;go_ret;exact⟨z0c HX.out.symm,Below.refl _ _⟩
theorem z4x (b b2:List Cm) (ih:∀ x∈b,PC x) (A A':OA) (c c':Nat) (w:World) (hk:RowC (LtX w.heap.size) w A b) (hk':RowC (LtX w.heap.size) w A' b2) (hs:∀ x∈b,FitC x) (hs':∀ x∈b2,FitC x) (hm:b.length≤1000000):
  Cz 12 #[.slice A b.length c,.slice A' b2.length c'] w fun e w'=>e= .returned (.bool (eqB (b.map stC) (b2.map stC)))∧Below w.heap.size w w':=by
 have K:=zz (x1q b b2 ih A A' c c' w hk hk' hs hs' hm);generalize eqB (b.map stC) (b2.map stC)=v at K ⊢;generalize b.length=m at K ⊢;generalize b2.length=m2 at K ⊢;clear ih hk hk' hs hs' hm;go_enter Tryz.func12,Tryz.ntmps12;go_wp2_with (go_at_call 25;go_must ((with_reducible refine(K.out).mono ?_);rintro e w4 ⟨rfl,hb4⟩));go_ret;exact⟨rfl,hb4⟩
theorem x35 (k q pk:Int) (pt:Bs) (b:List Cm) (p:Int) (ih:∀ x∈b,PC x):PR (.mk k q pk pt b p):=by
 intro y A A' c c' w hk hk' hf hf';obtain⟨k2,q2,pk2,pt2,b2,p2⟩:=y;rw[z2j] at hk hk';obtain⟨v,hv⟩:∃ v,v=eqB (stR (.mk k q pk pt b p)) (stR (.mk k2 q2 pk2 pt2 b2 p2)):=⟨_,rfl⟩;rw[←hv];have HV:Hid (∀ u,(v=u) ↔ (eqB (stR (.mk k q pk pt b p)) (stR (.mk k2 q2 pk2 pt2 b2 p2))=u)):=zz fun u=>by rw[hv]
 cases hf with
 | mk hf1 hf2 hf3=>
 cases hf' with
 | mk hg1 hg2 hg3=>
 have KE:Hid (∀ w',Below w.heap.size w w'→Cz 12 #[.slice A b.length c,.slice A' b2.length c'] w' fun e w2=>e= .returned (.bool (eqB (b.map stC) (b2.map stC)))∧Below w'.heap.size w' w2):=zz fun w' hb=>
  z4x b b2 ih A A' c c' w' (hk.next hb) (hk'.next hb) hf3 hg3 hf2
 show Calls _ _ #[.agg #[k,q,pk,pt,.slice A b.length c,p],.agg #[k2,q2,pk2,pt2,.slice A' b2.length c',p2]] _ _;obtain⟨X,hX⟩:∃ X:BA,X=⟨pt.toArray⟩:=⟨_,rfl⟩;obtain⟨X2,hX2⟩:∃ X:BA,X=⟨pt2.toArray⟩:=⟨_,rfl⟩;have gx:=z2s hX hX2;obtain⟨u,hu⟩:∃ u,u=eqB (b.map stC) (b2.map stC):=⟨_,rfl⟩;rw[←hu] at KE;have HU:=zz hu;rw[←hX,←hX2];have hP:=y40 pk pk2 X X2;generalize b.length=m at KE ⊢;generalize b2.length=m2 at KE ⊢;clear hv ih hk hk' hf1 hf2 hf3 hg1 hg2 hg3 hX hX2 hu;by_cases f1:k=k2
 ·have g1:(k==k2)=true:=by simp[f1]
  by_cases f2:q=q2
  ·have g2:(q==q2)=true:=by simp[f2]
   by_cases f3:pk=pk2∧pt=pt2
   ·have g3:(pk==pk2 && X.toList==X2.toList)=true:=by rw[gx,z0v f3.2,f3.1];simp
    rw[g3] at hP
    have HX:Hid (v=u):=zz (by
     rw[HU.out];refine(HV.out _).2 ?_;by_cases h:b.map stC=b2.map stC
     ·rw[z0v h,z0v (z9b.2 ⟨f1,f2,f3,h⟩)]
     ·rw[z0x h,z0x (fun e=>h (z9b.1 e).2.2.2)])
    clear f1 f2 f3 g3 gx HU HV;go_enter Tryz.func41,Tryz.ntmps41;go_wp2_with (go_at_call 12;go_must ((with_reducible refine(KE.out _ (z0a w _ _)).mono ?_);rintro e w4 ⟨rfl,hb4⟩));go_ret;exact⟨z0c HX.out.symm,(z0a w _ _).trans (hb4.mono (by simp;omega))⟩
   ·have g3:(pk==pk2 && X.toList==X2.toList)=false:=by
     rw[gx];by_cases h:pk=pk2
     ·rw[z0x (fun e=>f3 ⟨h,e⟩)];simp
     ·simp[h]
    rw[g3] at hP;have HX:Hid (v=false):=zz ((HV.out _).2 (z0x (fun h=>f3 (z9b.1 h).2.2.1)));clear f1 f2 f3 g3 gx HU HV;go_enter Tryz.func41,Tryz.ntmps41;go_wp2;go_ret;exact⟨z0c HX.out.symm,z0a _ _ _⟩
  ·have g2:(q==q2)=false:=by simp[f2]
   have HX:Hid (v=false):=zz ((HV.out _).2 (z0x (fun h=>f2 (z9b.1 h).2.1)));clear f1 f2 gx HU HV hP;go_enter Tryz.func41,Tryz.ntmps41;go_wp2;go_ret;exact⟨z0c HX.out.symm,z0a _ _ _⟩
 ·have g1:(k==k2)=false:=by simp[f1]
  have HX:Hid (v=false):=zz ((HV.out _).2 (z0x (fun h=>f1 (z9b.1 h).1)));clear f1 gx HU HV hP;go_enter Tryz.func41,Tryz.ntmps41;go_wp2;go_ret;exact⟨z0c HX.out.symm,z0a _ _ _⟩
theorem y94 (k n p k2 n2 p2:Int) (X X2:BA) (x x2:Ex) (m1 m2 m3 m4 m1' m2' m3' m4':Nat) (lk lk':Lk) (w:World)
  (g1:(k==k2)=false):
  Cz 26 #[.agg #[k,X,n,.slice lk.p m1 lk.cp,x.kind,x.n,x.name,x.op,.slice lk.x x.kids.length lk.cx,.slice lk.b m2 lk.cb,.slice lk.e m3 lk.ce,.slice lk.u m4 lk.cu,p],.agg #[k2,X2,n2,.slice lk'.p m1' lk'.cp,x2.kind,x2.n,x2.name,x2.op,.slice lk'.x x2.kids.length lk'.cx,.slice lk'.b m2' lk'.cb,.slice lk'.e m3' lk'.ce,.slice lk'.u m4' lk'.cu,p2]] w fun e w'=>e= .returned false∧Below w.heap.size w w':=by
 go_enter Tryz.func26,Tryz.ntmps26;go_wp2;go_ret;exact⟨rfl,z0a _ _ _⟩
theorem y7k (k n p k2 n2 p2:Int) (X X2:BA) (x x2:Ex) (m1 m2 m3 m4 m1' m2' m3' m4':Nat) (lk lk':Lk) (w:World)
  (g1:(k==k2)=true) (g2:(X.toList==X2.toList)=false):
  Cz 26 #[.agg #[k,X,n,.slice lk.p m1 lk.cp,x.kind,x.n,x.name,x.op,.slice lk.x x.kids.length lk.cx,.slice lk.b m2 lk.cb,.slice lk.e m3 lk.ce,.slice lk.u m4 lk.cu,p],.agg #[k2,X2,n2,.slice lk'.p m1' lk'.cp,x2.kind,x2.n,x2.name,x2.op,.slice lk'.x x2.kids.length lk'.cx,.slice lk'.b m2' lk'.cb,.slice lk'.e m3' lk'.ce,.slice lk'.u m4' lk'.cu,p2]] w fun e w'=>e= .returned false∧Below w.heap.size w w':=by
 go_enter Tryz.func26,Tryz.ntmps26;go_wp2;go_ret;exact⟨rfl,z0a _ _ _⟩
theorem y7i (k n p k2 n2 p2:Int) (X X2:BA) (x x2:Ex) (m1 m2 m3 m4 m1' m2' m3' m4':Nat) (lk lk':Lk) (w:World)
  (g1:(k==k2)=true) (g2:(X.toList==X2.toList)=true) (g3:(n==n2)=false):
  Cz 26 #[.agg #[k,X,n,.slice lk.p m1 lk.cp,x.kind,x.n,x.name,x.op,.slice lk.x x.kids.length lk.cx,.slice lk.b m2 lk.cb,.slice lk.e m3 lk.ce,.slice lk.u m4 lk.cu,p],.agg #[k2,X2,n2,.slice lk'.p m1' lk'.cp,x2.kind,x2.n,x2.name,x2.op,.slice lk'.x x2.kids.length lk'.cx,.slice lk'.b m2' lk'.cb,.slice lk'.e m3' lk'.ce,.slice lk'.u m4' lk'.cu,p2]] w fun e w'=>e= .returned false∧Below w.heap.size w w':=by
 go_enter Tryz.func26,Tryz.ntmps26;go_wp2;go_ret;exact⟨rfl,z0a _ _ _⟩
theorem y9u (k n p k2 n2 p2:Int) (X X2:BA) (x x2:Ex) (m1 m2 m3 m4 m1' m2' m3' m4':Nat) (lk lk':Lk) (w:World)
  (g1:(k==k2)=true) (g2:(X.toList==X2.toList)=true) (g3:(n==n2)=true) (K4:Hid (∀ w',Below w.heap.size w w'→Cz 38 #[.slice lk.p m1 lk.cp,.slice lk'.p m1' lk'.cp] w' fun e w2=>e= .returned false∧Below w'.heap.size w' w2)):
  Cz 26 #[.agg #[k,X,n,.slice lk.p m1 lk.cp,x.kind,x.n,x.name,x.op,.slice lk.x x.kids.length lk.cx,.slice lk.b m2 lk.cb,.slice lk.e m3 lk.ce,.slice lk.u m4 lk.cu,p],.agg #[k2,X2,n2,.slice lk'.p m1' lk'.cp,x2.kind,x2.n,x2.name,x2.op,.slice lk'.x x2.kids.length lk'.cx,.slice lk'.b m2' lk'.cb,.slice lk'.e m3' lk'.ce,.slice lk'.u m4' lk'.cu,p2]] w fun e w'=>e= .returned false∧Below w.heap.size w w':=by
 have HBX:Hid (∀ W',Below ((w.alloc (.cells #[k,X,n,.slice lk.p m1 lk.cp,x.kind,x.n,x.name,x.op,.slice lk.x x.kids.length lk.cx,.slice lk.b m2 lk.cb,.slice lk.e m3 lk.ce,.slice lk.u m4 lk.cu,p] 41)).alloc (.cells #[k2,X2,n2,.slice lk'.p m1' lk'.cp,x2.kind,x2.n,x2.name,x2.op,.slice lk'.x x2.kids.length lk'.cx,.slice lk'.b m2' lk'.cb,.slice lk'.e m3' lk'.ce,.slice lk'.u m4' lk'.cu,p2] 41)).heap.size ((w.alloc (.cells #[k,X,n,.slice lk.p m1 lk.cp,x.kind,x.n,x.name,x.op,.slice lk.x x.kids.length lk.cx,.slice lk.b m2 lk.cb,.slice lk.e m3 lk.ce,.slice lk.u m4 lk.cu,p] 41)).alloc (.cells #[k2,X2,n2,.slice lk'.p m1' lk'.cp,x2.kind,x2.n,x2.name,x2.op,.slice lk'.x x2.kids.length lk'.cx,.slice lk'.b m2' lk'.cb,.slice lk'.e m3' lk'.ce,.slice lk'.u m4' lk'.cu,p2] 41)) W'→BoxL W' w.heap.size [k,X,n,.slice lk.p m1 lk.cp,x.kind,x.n,x.name,x.op,.slice lk.x x.kids.length lk.cx,.slice lk.b m2 lk.cb,.slice lk.e m3 lk.ce,.slice lk.u m4 lk.cu,p]∧BoxL W' (w.heap.size+1) [k2,X2,n2,.slice lk'.p m1' lk'.cp,x2.kind,x2.n,x2.name,x2.op,.slice lk'.x x2.kids.length lk'.cx,.slice lk'.b m2' lk'.cb,.slice lk'.e m3' lk'.ce,.slice lk'.u m4' lk'.cu,p2]):=zz fun W' hb=>by
  have h1:=BoxL.new w 41 [k,X,n,.slice lk.p m1 lk.cp,x.kind,x.n,x.name,x.op,.slice lk.x x.kids.length lk.cx,.slice lk.b m2 lk.cb,.slice lk.e m3 lk.ce,.slice lk.u m4 lk.cu,p];have h2:=BoxL.new (w.alloc (.cells #[k,X,n,.slice lk.p m1 lk.cp,x.kind,x.n,x.name,x.op,.slice lk.x x.kids.length lk.cx,.slice lk.b m2 lk.cb,.slice lk.e m3 lk.ce,.slice lk.u m4 lk.cu,p] 41)) 41 [k2,X2,n2,.slice lk'.p m1' lk'.cp,x2.kind,x2.n,x2.name,x2.op,.slice lk'.x x2.kids.length lk'.cx,.slice lk'.b m2' lk'.cb,.slice lk'.e m3' lk'.ce,.slice lk'.u m4' lk'.cu,p2];rw[z0j] at h2;exact⟨(h1.low (by simp) (z0b _ _)).low (by simp) hb,h2.low (by simp) hb⟩
 go_enter Tryz.func26,Tryz.ntmps26;go_wp2_with (first | (go_at_call 38;go_must ((with_reducible refine(K4.out _ (z0a w _ _)).mono ?_);rintro e v4 ⟨rfl,hb4⟩;have HT4:=zz hb4;clear hb4)));go_ret;exact⟨rfl,(z0a w _ _).trans (HT4.out.mono (by simp;omega))⟩
theorem y8g (k n p k2 n2 p2:Int) (X X2:BA) (x x2:Ex) (m1 m2 m3 m4 m1' m2' m3' m4':Nat) (lk lk':Lk) (w:World)
  (g1:(k==k2)=true) (g2:(X.toList==X2.toList)=true) (g3:(n==n2)=true) (K4:Hid (∀ w',Below w.heap.size w w'→Cz 38 #[.slice lk.p m1 lk.cp,.slice lk'.p m1' lk'.cp] w' fun e w2=>e= .returned true∧Below w'.heap.size w' w2)) (K5:Hid (∀ w',Below w.heap.size w w'→Cz 39 #[.agg #[x.kind,x.n,x.name,x.op,.slice lk.x x.kids.length lk.cx],.agg #[x2.kind,x2.n,x2.name,x2.op,.slice lk'.x x2.kids.length lk'.cx]] w' fun e w2=>e= .returned false∧Below w'.heap.size w' w2)):
  Cz 26 #[.agg #[k,X,n,.slice lk.p m1 lk.cp,x.kind,x.n,x.name,x.op,.slice lk.x x.kids.length lk.cx,.slice lk.b m2 lk.cb,.slice lk.e m3 lk.ce,.slice lk.u m4 lk.cu,p],.agg #[k2,X2,n2,.slice lk'.p m1' lk'.cp,x2.kind,x2.n,x2.name,x2.op,.slice lk'.x x2.kids.length lk'.cx,.slice lk'.b m2' lk'.cb,.slice lk'.e m3' lk'.ce,.slice lk'.u m4' lk'.cu,p2]] w fun e w'=>e= .returned false∧Below w.heap.size w w':=by
 have HBX:Hid (∀ W',Below ((w.alloc (.cells #[k,X,n,.slice lk.p m1 lk.cp,x.kind,x.n,x.name,x.op,.slice lk.x x.kids.length lk.cx,.slice lk.b m2 lk.cb,.slice lk.e m3 lk.ce,.slice lk.u m4 lk.cu,p] 41)).alloc (.cells #[k2,X2,n2,.slice lk'.p m1' lk'.cp,x2.kind,x2.n,x2.name,x2.op,.slice lk'.x x2.kids.length lk'.cx,.slice lk'.b m2' lk'.cb,.slice lk'.e m3' lk'.ce,.slice lk'.u m4' lk'.cu,p2] 41)).heap.size ((w.alloc (.cells #[k,X,n,.slice lk.p m1 lk.cp,x.kind,x.n,x.name,x.op,.slice lk.x x.kids.length lk.cx,.slice lk.b m2 lk.cb,.slice lk.e m3 lk.ce,.slice lk.u m4 lk.cu,p] 41)).alloc (.cells #[k2,X2,n2,.slice lk'.p m1' lk'.cp,x2.kind,x2.n,x2.name,x2.op,.slice lk'.x x2.kids.length lk'.cx,.slice lk'.b m2' lk'.cb,.slice lk'.e m3' lk'.ce,.slice lk'.u m4' lk'.cu,p2] 41)) W'→BoxL W' w.heap.size [k,X,n,.slice lk.p m1 lk.cp,x.kind,x.n,x.name,x.op,.slice lk.x x.kids.length lk.cx,.slice lk.b m2 lk.cb,.slice lk.e m3 lk.ce,.slice lk.u m4 lk.cu,p]∧BoxL W' (w.heap.size+1) [k2,X2,n2,.slice lk'.p m1' lk'.cp,x2.kind,x2.n,x2.name,x2.op,.slice lk'.x x2.kids.length lk'.cx,.slice lk'.b m2' lk'.cb,.slice lk'.e m3' lk'.ce,.slice lk'.u m4' lk'.cu,p2]):=zz fun W' hb=>by
  have h1:=BoxL.new w 41 [k,X,n,.slice lk.p m1 lk.cp,x.kind,x.n,x.name,x.op,.slice lk.x x.kids.length lk.cx,.slice lk.b m2 lk.cb,.slice lk.e m3 lk.ce,.slice lk.u m4 lk.cu,p];have h2:=BoxL.new (w.alloc (.cells #[k,X,n,.slice lk.p m1 lk.cp,x.kind,x.n,x.name,x.op,.slice lk.x x.kids.length lk.cx,.slice lk.b m2 lk.cb,.slice lk.e m3 lk.ce,.slice lk.u m4 lk.cu,p] 41)) 41 [k2,X2,n2,.slice lk'.p m1' lk'.cp,x2.kind,x2.n,x2.name,x2.op,.slice lk'.x x2.kids.length lk'.cx,.slice lk'.b m2' lk'.cb,.slice lk'.e m3' lk'.ce,.slice lk'.u m4' lk'.cu,p2];rw[z0j] at h2;exact⟨(h1.low (by simp) (z0b _ _)).low (by simp) hb,h2.low (by simp) hb⟩
 go_enter Tryz.func26,Tryz.ntmps26;go_wp2_with (first | (go_at_call 38;go_must ((with_reducible refine(K4.out _ (z0a w _ _)).mono ?_);rintro e v4 ⟨rfl,hb4⟩;have HT4:=zz hb4;clear hb4;obtain⟨u1,u2⟩:=HBX.out _ HT4.out;obtain⟨c0,c1,c2,c3,c4,c5,c6,c7,c8,c9,c10,c11,c12⟩:=u1.all13;obtain⟨d0,d1,d2,d3,d4,d5,d6,d7,d8,d9,d10,d11,d12⟩:=u2.all13;clear u1 u2 c0 c1 c2 c12 d0 d1 d2 d12)) | (go_at_call 39;go_must ((with_reducible refine(K5.out _ ((z0a w _ _).trans (HT4.out.mono (by simp;omega)))).mono ?_);rintro e v5 ⟨rfl,hb5⟩;have HT5:=zz (HT4.out.trans (hb5.mono HT4.out.size));clear hb5)));go_ret;exact⟨rfl,(z0a w _ _).trans (HT5.out.mono (by simp;omega))⟩
theorem y7q (k n p k2 n2 p2:Int) (X X2:BA) (x x2:Ex) (m1 m2 m3 m4 m1' m2' m3' m4':Nat) (lk lk':Lk) (w:World)
  (g1:(k==k2)=true) (g2:(X.toList==X2.toList)=true) (g3:(n==n2)=true) (K4:Hid (∀ w',Below w.heap.size w w'→Cz 38 #[.slice lk.p m1 lk.cp,.slice lk'.p m1' lk'.cp] w' fun e w2=>e= .returned true∧Below w'.heap.size w' w2)) (K5:Hid (∀ w',Below w.heap.size w w'→Cz 39 #[.agg #[x.kind,x.n,x.name,x.op,.slice lk.x x.kids.length lk.cx],.agg #[x2.kind,x2.n,x2.name,x2.op,.slice lk'.x x2.kids.length lk'.cx]] w' fun e w2=>e= .returned true∧Below w'.heap.size w' w2)) (K6:Hid (∀ w',Below w.heap.size w w'→Cz 12 #[.slice lk.b m2 lk.cb,.slice lk'.b m2' lk'.cb] w' fun e w2=>e= .returned false∧Below w'.heap.size w' w2)):
  Cz 26 #[.agg #[k,X,n,.slice lk.p m1 lk.cp,x.kind,x.n,x.name,x.op,.slice lk.x x.kids.length lk.cx,.slice lk.b m2 lk.cb,.slice lk.e m3 lk.ce,.slice lk.u m4 lk.cu,p],.agg #[k2,X2,n2,.slice lk'.p m1' lk'.cp,x2.kind,x2.n,x2.name,x2.op,.slice lk'.x x2.kids.length lk'.cx,.slice lk'.b m2' lk'.cb,.slice lk'.e m3' lk'.ce,.slice lk'.u m4' lk'.cu,p2]] w fun e w'=>e= .returned false∧Below w.heap.size w w':=by
 have HBX:Hid (∀ W',Below ((w.alloc (.cells #[k,X,n,.slice lk.p m1 lk.cp,x.kind,x.n,x.name,x.op,.slice lk.x x.kids.length lk.cx,.slice lk.b m2 lk.cb,.slice lk.e m3 lk.ce,.slice lk.u m4 lk.cu,p] 41)).alloc (.cells #[k2,X2,n2,.slice lk'.p m1' lk'.cp,x2.kind,x2.n,x2.name,x2.op,.slice lk'.x x2.kids.length lk'.cx,.slice lk'.b m2' lk'.cb,.slice lk'.e m3' lk'.ce,.slice lk'.u m4' lk'.cu,p2] 41)).heap.size ((w.alloc (.cells #[k,X,n,.slice lk.p m1 lk.cp,x.kind,x.n,x.name,x.op,.slice lk.x x.kids.length lk.cx,.slice lk.b m2 lk.cb,.slice lk.e m3 lk.ce,.slice lk.u m4 lk.cu,p] 41)).alloc (.cells #[k2,X2,n2,.slice lk'.p m1' lk'.cp,x2.kind,x2.n,x2.name,x2.op,.slice lk'.x x2.kids.length lk'.cx,.slice lk'.b m2' lk'.cb,.slice lk'.e m3' lk'.ce,.slice lk'.u m4' lk'.cu,p2] 41)) W'→BoxL W' w.heap.size [k,X,n,.slice lk.p m1 lk.cp,x.kind,x.n,x.name,x.op,.slice lk.x x.kids.length lk.cx,.slice lk.b m2 lk.cb,.slice lk.e m3 lk.ce,.slice lk.u m4 lk.cu,p]∧BoxL W' (w.heap.size+1) [k2,X2,n2,.slice lk'.p m1' lk'.cp,x2.kind,x2.n,x2.name,x2.op,.slice lk'.x x2.kids.length lk'.cx,.slice lk'.b m2' lk'.cb,.slice lk'.e m3' lk'.ce,.slice lk'.u m4' lk'.cu,p2]):=zz fun W' hb=>by
  have h1:=BoxL.new w 41 [k,X,n,.slice lk.p m1 lk.cp,x.kind,x.n,x.name,x.op,.slice lk.x x.kids.length lk.cx,.slice lk.b m2 lk.cb,.slice lk.e m3 lk.ce,.slice lk.u m4 lk.cu,p];have h2:=BoxL.new (w.alloc (.cells #[k,X,n,.slice lk.p m1 lk.cp,x.kind,x.n,x.name,x.op,.slice lk.x x.kids.length lk.cx,.slice lk.b m2 lk.cb,.slice lk.e m3 lk.ce,.slice lk.u m4 lk.cu,p] 41)) 41 [k2,X2,n2,.slice lk'.p m1' lk'.cp,x2.kind,x2.n,x2.name,x2.op,.slice lk'.x x2.kids.length lk'.cx,.slice lk'.b m2' lk'.cb,.slice lk'.e m3' lk'.ce,.slice lk'.u m4' lk'.cu,p2];rw[z0j] at h2;exact⟨(h1.low (by simp) (z0b _ _)).low (by simp) hb,h2.low (by simp) hb⟩
 go_enter Tryz.func26,Tryz.ntmps26;go_wp2_with (first | (go_at_call 38;go_must ((with_reducible refine(K4.out _ (z0a w _ _)).mono ?_);rintro e v4 ⟨rfl,hb4⟩;have HT4:=zz hb4;clear hb4;obtain⟨u1,u2⟩:=HBX.out _ HT4.out;obtain⟨c0,c1,c2,c3,c4,c5,c6,c7,c8,c9,c10,c11,c12⟩:=u1.all13;obtain⟨d0,d1,d2,d3,d4,d5,d6,d7,d8,d9,d10,d11,d12⟩:=u2.all13;clear u1 u2 c0 c1 c2 c12 d0 d1 d2 d12)) | (go_at_call 39;go_must ((with_reducible refine(K5.out _ ((z0a w _ _).trans (HT4.out.mono (by simp;omega)))).mono ?_);rintro e v5 ⟨rfl,hb5⟩;have HT5:=zz (HT4.out.trans (hb5.mono HT4.out.size));clear hb5;obtain⟨u1,u2⟩:=HBX.out _ HT5.out;obtain⟨c0,c1,c2,c3,c4,c5,c6,c7,c8,c9,c10,c11,c12⟩:=u1.all13;obtain⟨d0,d1,d2,d3,d4,d5,d6,d7,d8,d9,d10,d11,d12⟩:=u2.all13;clear u1 u2 c0 c1 c2 c12 d0 d1 d2 d12)) | (go_at_call 12;go_must ((with_reducible refine(K6.out _ ((z0a w _ _).trans (HT5.out.mono (by simp;omega)))).mono ?_);rintro e v6 ⟨rfl,hb6⟩;have HT6:=zz (HT5.out.trans (hb6.mono HT5.out.size));clear hb6)));go_ret;exact⟨rfl,(z0a w _ _).trans (HT6.out.mono (by simp;omega))⟩
theorem y8i (k n p k2 n2 p2:Int) (X X2:BA) (x x2:Ex) (m1 m2 m3 m4 m1' m2' m3' m4':Nat) (lk lk':Lk) (w:World)
  (g1:(k==k2)=true) (g2:(X.toList==X2.toList)=true) (g3:(n==n2)=true) (K4:Hid (∀ w',Below w.heap.size w w'→Cz 38 #[.slice lk.p m1 lk.cp,.slice lk'.p m1' lk'.cp] w' fun e w2=>e= .returned true∧Below w'.heap.size w' w2)) (K5:Hid (∀ w',Below w.heap.size w w'→Cz 39 #[.agg #[x.kind,x.n,x.name,x.op,.slice lk.x x.kids.length lk.cx],.agg #[x2.kind,x2.n,x2.name,x2.op,.slice lk'.x x2.kids.length lk'.cx]] w' fun e w2=>e= .returned true∧Below w'.heap.size w' w2)) (K6:Hid (∀ w',Below w.heap.size w w'→Cz 12 #[.slice lk.b m2 lk.cb,.slice lk'.b m2' lk'.cb] w' fun e w2=>e= .returned true∧Below w'.heap.size w' w2)) (K7:Hid (∀ w',Below w.heap.size w w'→Cz 12 #[.slice lk.e m3 lk.ce,.slice lk'.e m3' lk'.ce] w' fun e w2=>e= .returned false∧Below w'.heap.size w' w2)):
  Cz 26 #[.agg #[k,X,n,.slice lk.p m1 lk.cp,x.kind,x.n,x.name,x.op,.slice lk.x x.kids.length lk.cx,.slice lk.b m2 lk.cb,.slice lk.e m3 lk.ce,.slice lk.u m4 lk.cu,p],.agg #[k2,X2,n2,.slice lk'.p m1' lk'.cp,x2.kind,x2.n,x2.name,x2.op,.slice lk'.x x2.kids.length lk'.cx,.slice lk'.b m2' lk'.cb,.slice lk'.e m3' lk'.ce,.slice lk'.u m4' lk'.cu,p2]] w fun e w'=>e= .returned false∧Below w.heap.size w w':=by
 have HBX:Hid (∀ W',Below ((w.alloc (.cells #[k,X,n,.slice lk.p m1 lk.cp,x.kind,x.n,x.name,x.op,.slice lk.x x.kids.length lk.cx,.slice lk.b m2 lk.cb,.slice lk.e m3 lk.ce,.slice lk.u m4 lk.cu,p] 41)).alloc (.cells #[k2,X2,n2,.slice lk'.p m1' lk'.cp,x2.kind,x2.n,x2.name,x2.op,.slice lk'.x x2.kids.length lk'.cx,.slice lk'.b m2' lk'.cb,.slice lk'.e m3' lk'.ce,.slice lk'.u m4' lk'.cu,p2] 41)).heap.size ((w.alloc (.cells #[k,X,n,.slice lk.p m1 lk.cp,x.kind,x.n,x.name,x.op,.slice lk.x x.kids.length lk.cx,.slice lk.b m2 lk.cb,.slice lk.e m3 lk.ce,.slice lk.u m4 lk.cu,p] 41)).alloc (.cells #[k2,X2,n2,.slice lk'.p m1' lk'.cp,x2.kind,x2.n,x2.name,x2.op,.slice lk'.x x2.kids.length lk'.cx,.slice lk'.b m2' lk'.cb,.slice lk'.e m3' lk'.ce,.slice lk'.u m4' lk'.cu,p2] 41)) W'→BoxL W' w.heap.size [k,X,n,.slice lk.p m1 lk.cp,x.kind,x.n,x.name,x.op,.slice lk.x x.kids.length lk.cx,.slice lk.b m2 lk.cb,.slice lk.e m3 lk.ce,.slice lk.u m4 lk.cu,p]∧BoxL W' (w.heap.size+1) [k2,X2,n2,.slice lk'.p m1' lk'.cp,x2.kind,x2.n,x2.name,x2.op,.slice lk'.x x2.kids.length lk'.cx,.slice lk'.b m2' lk'.cb,.slice lk'.e m3' lk'.ce,.slice lk'.u m4' lk'.cu,p2]):=zz fun W' hb=>by
  have h1:=BoxL.new w 41 [k,X,n,.slice lk.p m1 lk.cp,x.kind,x.n,x.name,x.op,.slice lk.x x.kids.length lk.cx,.slice lk.b m2 lk.cb,.slice lk.e m3 lk.ce,.slice lk.u m4 lk.cu,p];have h2:=BoxL.new (w.alloc (.cells #[k,X,n,.slice lk.p m1 lk.cp,x.kind,x.n,x.name,x.op,.slice lk.x x.kids.length lk.cx,.slice lk.b m2 lk.cb,.slice lk.e m3 lk.ce,.slice lk.u m4 lk.cu,p] 41)) 41 [k2,X2,n2,.slice lk'.p m1' lk'.cp,x2.kind,x2.n,x2.name,x2.op,.slice lk'.x x2.kids.length lk'.cx,.slice lk'.b m2' lk'.cb,.slice lk'.e m3' lk'.ce,.slice lk'.u m4' lk'.cu,p2];rw[z0j] at h2;exact⟨(h1.low (by simp) (z0b _ _)).low (by simp) hb,h2.low (by simp) hb⟩
 go_enter Tryz.func26,Tryz.ntmps26;go_wp2_with (first | (go_at_call 38;go_must ((with_reducible refine(K4.out _ (z0a w _ _)).mono ?_);rintro e v4 ⟨rfl,hb4⟩;have HT4:=zz hb4;clear hb4;obtain⟨u1,u2⟩:=HBX.out _ HT4.out;obtain⟨c0,c1,c2,c3,c4,c5,c6,c7,c8,c9,c10,c11,c12⟩:=u1.all13;obtain⟨d0,d1,d2,d3,d4,d5,d6,d7,d8,d9,d10,d11,d12⟩:=u2.all13;clear u1 u2 c0 c1 c2 c12 d0 d1 d2 d12)) | (go_at_call 39;go_must ((with_reducible refine(K5.out _ ((z0a w _ _).trans (HT4.out.mono (by simp;omega)))).mono ?_);rintro e v5 ⟨rfl,hb5⟩;have HT5:=zz (HT4.out.trans (hb5.mono HT4.out.size));clear hb5;obtain⟨u1,u2⟩:=HBX.out _ HT5.out;obtain⟨c0,c1,c2,c3,c4,c5,c6,c7,c8,c9,c10,c11,c12⟩:=u1.all13;obtain⟨d0,d1,d2,d3,d4,d5,d6,d7,d8,d9,d10,d11,d12⟩:=u2.all13;clear u1 u2 c0 c1 c2 c12 d0 d1 d2 d12)) | (go_at_call 12;((with_reducible refine(K6.out _ ((z0a w _ _).trans (HT5.out.mono (by simp;omega)))).mono ?_);rintro e v6 ⟨rfl,hb6⟩;have HT6:=zz (HT5.out.trans (hb6.mono HT5.out.size));clear hb6 K6;obtain⟨u1,u2⟩:=HBX.out _ HT6.out;obtain⟨c0,c1,c2,c3,c4,c5,c6,c7,c8,c9,c10,c11,c12⟩:=u1.all13;obtain⟨d0,d1,d2,d3,d4,d5,d6,d7,d8,d9,d10,d11,d12⟩:=u2.all13;clear u1 u2 c0 c1 c2 c12 d0 d1 d2 d12)) | (go_at_call 12;go_must ((with_reducible refine(K7.out _ ((z0a w _ _).trans (HT6.out.mono (by simp;omega)))).mono ?_);rintro e v7 ⟨rfl,hb7⟩;have HT7:=zz (HT6.out.trans (hb7.mono HT6.out.size));clear hb7)));go_ret;exact⟨rfl,(z0a w _ _).trans (HT7.out.mono (by simp;omega))⟩
theorem y7u (k n p k2 n2 p2:Int) (X X2:BA) (x x2:Ex) (m1 m2 m3 m4 m1' m2' m3' m4':Nat) (lk lk':Lk) (w:World)
  (g1:(k==k2)=true) (g2:(X.toList==X2.toList)=true) (g3:(n==n2)=true) (K4:Hid (∀ w',Below w.heap.size w w'→Cz 38 #[.slice lk.p m1 lk.cp,.slice lk'.p m1' lk'.cp] w' fun e w2=>e= .returned true∧Below w'.heap.size w' w2)) (K5:Hid (∀ w',Below w.heap.size w w'→Cz 39 #[.agg #[x.kind,x.n,x.name,x.op,.slice lk.x x.kids.length lk.cx],.agg #[x2.kind,x2.n,x2.name,x2.op,.slice lk'.x x2.kids.length lk'.cx]] w' fun e w2=>e= .returned true∧Below w'.heap.size w' w2)) (K6:Hid (∀ w',Below w.heap.size w w'→Cz 12 #[.slice lk.b m2 lk.cb,.slice lk'.b m2' lk'.cb] w' fun e w2=>e= .returned true∧Below w'.heap.size w' w2)) (K7:Hid (∀ w',Below w.heap.size w w'→Cz 12 #[.slice lk.e m3 lk.ce,.slice lk'.e m3' lk'.ce] w' fun e w2=>e= .returned true∧Below w'.heap.size w' w2)) (K8:Hid (∀ w',Below w.heap.size w w'→Cz 40 #[.slice lk.u m4 lk.cu,.slice lk'.u m4' lk'.cu,.func (.func 41) #[] #[]] w' fun e w2=>e= .returned false∧Below w'.heap.size w' w2)):
  Cz 26 #[.agg #[k,X,n,.slice lk.p m1 lk.cp,x.kind,x.n,x.name,x.op,.slice lk.x x.kids.length lk.cx,.slice lk.b m2 lk.cb,.slice lk.e m3 lk.ce,.slice lk.u m4 lk.cu,p],.agg #[k2,X2,n2,.slice lk'.p m1' lk'.cp,x2.kind,x2.n,x2.name,x2.op,.slice lk'.x x2.kids.length lk'.cx,.slice lk'.b m2' lk'.cb,.slice lk'.e m3' lk'.ce,.slice lk'.u m4' lk'.cu,p2]] w fun e w'=>e= .returned false∧Below w.heap.size w w':=by
 have HBX:Hid (∀ W',Below ((w.alloc (.cells #[k,X,n,.slice lk.p m1 lk.cp,x.kind,x.n,x.name,x.op,.slice lk.x x.kids.length lk.cx,.slice lk.b m2 lk.cb,.slice lk.e m3 lk.ce,.slice lk.u m4 lk.cu,p] 41)).alloc (.cells #[k2,X2,n2,.slice lk'.p m1' lk'.cp,x2.kind,x2.n,x2.name,x2.op,.slice lk'.x x2.kids.length lk'.cx,.slice lk'.b m2' lk'.cb,.slice lk'.e m3' lk'.ce,.slice lk'.u m4' lk'.cu,p2] 41)).heap.size ((w.alloc (.cells #[k,X,n,.slice lk.p m1 lk.cp,x.kind,x.n,x.name,x.op,.slice lk.x x.kids.length lk.cx,.slice lk.b m2 lk.cb,.slice lk.e m3 lk.ce,.slice lk.u m4 lk.cu,p] 41)).alloc (.cells #[k2,X2,n2,.slice lk'.p m1' lk'.cp,x2.kind,x2.n,x2.name,x2.op,.slice lk'.x x2.kids.length lk'.cx,.slice lk'.b m2' lk'.cb,.slice lk'.e m3' lk'.ce,.slice lk'.u m4' lk'.cu,p2] 41)) W'→BoxL W' w.heap.size [k,X,n,.slice lk.p m1 lk.cp,x.kind,x.n,x.name,x.op,.slice lk.x x.kids.length lk.cx,.slice lk.b m2 lk.cb,.slice lk.e m3 lk.ce,.slice lk.u m4 lk.cu,p]∧BoxL W' (w.heap.size+1) [k2,X2,n2,.slice lk'.p m1' lk'.cp,x2.kind,x2.n,x2.name,x2.op,.slice lk'.x x2.kids.length lk'.cx,.slice lk'.b m2' lk'.cb,.slice lk'.e m3' lk'.ce,.slice lk'.u m4' lk'.cu,p2]):=zz fun W' hb=>by
  have h1:=BoxL.new w 41 [k,X,n,.slice lk.p m1 lk.cp,x.kind,x.n,x.name,x.op,.slice lk.x x.kids.length lk.cx,.slice lk.b m2 lk.cb,.slice lk.e m3 lk.ce,.slice lk.u m4 lk.cu,p];have h2:=BoxL.new (w.alloc (.cells #[k,X,n,.slice lk.p m1 lk.cp,x.kind,x.n,x.name,x.op,.slice lk.x x.kids.length lk.cx,.slice lk.b m2 lk.cb,.slice lk.e m3 lk.ce,.slice lk.u m4 lk.cu,p] 41)) 41 [k2,X2,n2,.slice lk'.p m1' lk'.cp,x2.kind,x2.n,x2.name,x2.op,.slice lk'.x x2.kids.length lk'.cx,.slice lk'.b m2' lk'.cb,.slice lk'.e m3' lk'.ce,.slice lk'.u m4' lk'.cu,p2];rw[z0j] at h2;exact⟨(h1.low (by simp) (z0b _ _)).low (by simp) hb,h2.low (by simp) hb⟩
 go_enter Tryz.func26,Tryz.ntmps26;go_wp2_with (first | (go_at_call 38;go_must ((with_reducible refine(K4.out _ (z0a w _ _)).mono ?_);rintro e v4 ⟨rfl,hb4⟩;have HT4:=zz hb4;clear hb4;obtain⟨u1,u2⟩:=HBX.out _ HT4.out;obtain⟨c0,c1,c2,c3,c4,c5,c6,c7,c8,c9,c10,c11,c12⟩:=u1.all13;obtain⟨d0,d1,d2,d3,d4,d5,d6,d7,d8,d9,d10,d11,d12⟩:=u2.all13;clear u1 u2 c0 c1 c2 c12 d0 d1 d2 d12)) | (go_at_call 39;go_must ((with_reducible refine(K5.out _ ((z0a w _ _).trans (HT4.out.mono (by simp;omega)))).mono ?_);rintro e v5 ⟨rfl,hb5⟩;have HT5:=zz (HT4.out.trans (hb5.mono HT4.out.size));clear hb5;obtain⟨u1,u2⟩:=HBX.out _ HT5.out;obtain⟨c0,c1,c2,c3,c4,c5,c6,c7,c8,c9,c10,c11,c12⟩:=u1.all13;obtain⟨d0,d1,d2,d3,d4,d5,d6,d7,d8,d9,d10,d11,d12⟩:=u2.all13;clear u1 u2 c0 c1 c2 c12 d0 d1 d2 d12)) | (go_at_call 12;((with_reducible refine(K6.out _ ((z0a w _ _).trans (HT5.out.mono (by simp;omega)))).mono ?_);rintro e v6 ⟨rfl,hb6⟩;have HT6:=zz (HT5.out.trans (hb6.mono HT5.out.size));clear hb6 K6;obtain⟨u1,u2⟩:=HBX.out _ HT6.out;obtain⟨c0,c1,c2,c3,c4,c5,c6,c7,c8,c9,c10,c11,c12⟩:=u1.all13;obtain⟨d0,d1,d2,d3,d4,d5,d6,d7,d8,d9,d10,d11,d12⟩:=u2.all13;clear u1 u2 c0 c1 c2 c12 d0 d1 d2 d12)) | (go_at_call 12;go_must ((with_reducible refine(K7.out _ ((z0a w _ _).trans (HT6.out.mono (by simp;omega)))).mono ?_);rintro e v7 ⟨rfl,hb7⟩;have HT7:=zz (HT6.out.trans (hb7.mono HT6.out.size));clear hb7;obtain⟨u1,u2⟩:=HBX.out _ HT7.out;obtain⟨c0,c1,c2,c3,c4,c5,c6,c7,c8,c9,c10,c11,c12⟩:=u1.all13;obtain⟨d0,d1,d2,d3,d4,d5,d6,d7,d8,d9,d10,d11,d12⟩:=u2.all13;clear u1 u2 c0 c1 c2 c12 d0 d1 d2 d12)) | (go_at_call 40;go_must ((with_reducible refine(K8.out _ ((z0a w _ _).trans (HT7.out.mono (by simp;omega)))).mono ?_);rintro e v8 ⟨rfl,hb8⟩;have HT8:=zz (HT7.out.trans (hb8.mono HT7.out.size));clear hb8)));go_ret;exact⟨rfl,(z0a w _ _).trans (HT8.out.mono (by simp;omega))⟩
theorem y9n (k n p k2 n2 p2:Int) (X X2:BA) (x x2:Ex) (m1 m2 m3 m4 m1' m2' m3' m4':Nat) (lk lk':Lk) (w:World)
  (g1:(k==k2)=true) (g2:(X.toList==X2.toList)=true) (g3:(n==n2)=true) (K4:Hid (∀ w',Below w.heap.size w w'→Cz 38 #[.slice lk.p m1 lk.cp,.slice lk'.p m1' lk'.cp] w' fun e w2=>e= .returned true∧Below w'.heap.size w' w2)) (K5:Hid (∀ w',Below w.heap.size w w'→Cz 39 #[.agg #[x.kind,x.n,x.name,x.op,.slice lk.x x.kids.length lk.cx],.agg #[x2.kind,x2.n,x2.name,x2.op,.slice lk'.x x2.kids.length lk'.cx]] w' fun e w2=>e= .returned true∧Below w'.heap.size w' w2)) (K6:Hid (∀ w',Below w.heap.size w w'→Cz 12 #[.slice lk.b m2 lk.cb,.slice lk'.b m2' lk'.cb] w' fun e w2=>e= .returned true∧Below w'.heap.size w' w2)) (K7:Hid (∀ w',Below w.heap.size w w'→Cz 12 #[.slice lk.e m3 lk.ce,.slice lk'.e m3' lk'.ce] w' fun e w2=>e= .returned true∧Below w'.heap.size w' w2)) (K8:Hid (∀ w',Below w.heap.size w w'→Cz 40 #[.slice lk.u m4 lk.cu,.slice lk'.u m4' lk'.cu,.func (.func 41) #[] #[]] w' fun e w2=>e= .returned true∧Below w'.heap.size w' w2)):
  Cz 26 #[.agg #[k,X,n,.slice lk.p m1 lk.cp,x.kind,x.n,x.name,x.op,.slice lk.x x.kids.length lk.cx,.slice lk.b m2 lk.cb,.slice lk.e m3 lk.ce,.slice lk.u m4 lk.cu,p],.agg #[k2,X2,n2,.slice lk'.p m1' lk'.cp,x2.kind,x2.n,x2.name,x2.op,.slice lk'.x x2.kids.length lk'.cx,.slice lk'.b m2' lk'.cb,.slice lk'.e m3' lk'.ce,.slice lk'.u m4' lk'.cu,p2]] w fun e w'=>e= .returned true∧Below w.heap.size w w':=by
 have HBX:Hid (∀ W',Below ((w.alloc (.cells #[k,X,n,.slice lk.p m1 lk.cp,x.kind,x.n,x.name,x.op,.slice lk.x x.kids.length lk.cx,.slice lk.b m2 lk.cb,.slice lk.e m3 lk.ce,.slice lk.u m4 lk.cu,p] 41)).alloc (.cells #[k2,X2,n2,.slice lk'.p m1' lk'.cp,x2.kind,x2.n,x2.name,x2.op,.slice lk'.x x2.kids.length lk'.cx,.slice lk'.b m2' lk'.cb,.slice lk'.e m3' lk'.ce,.slice lk'.u m4' lk'.cu,p2] 41)).heap.size ((w.alloc (.cells #[k,X,n,.slice lk.p m1 lk.cp,x.kind,x.n,x.name,x.op,.slice lk.x x.kids.length lk.cx,.slice lk.b m2 lk.cb,.slice lk.e m3 lk.ce,.slice lk.u m4 lk.cu,p] 41)).alloc (.cells #[k2,X2,n2,.slice lk'.p m1' lk'.cp,x2.kind,x2.n,x2.name,x2.op,.slice lk'.x x2.kids.length lk'.cx,.slice lk'.b m2' lk'.cb,.slice lk'.e m3' lk'.ce,.slice lk'.u m4' lk'.cu,p2] 41)) W'→BoxL W' w.heap.size [k,X,n,.slice lk.p m1 lk.cp,x.kind,x.n,x.name,x.op,.slice lk.x x.kids.length lk.cx,.slice lk.b m2 lk.cb,.slice lk.e m3 lk.ce,.slice lk.u m4 lk.cu,p]∧BoxL W' (w.heap.size+1) [k2,X2,n2,.slice lk'.p m1' lk'.cp,x2.kind,x2.n,x2.name,x2.op,.slice lk'.x x2.kids.length lk'.cx,.slice lk'.b m2' lk'.cb,.slice lk'.e m3' lk'.ce,.slice lk'.u m4' lk'.cu,p2]):=zz fun W' hb=>by
  have h1:=BoxL.new w 41 [k,X,n,.slice lk.p m1 lk.cp,x.kind,x.n,x.name,x.op,.slice lk.x x.kids.length lk.cx,.slice lk.b m2 lk.cb,.slice lk.e m3 lk.ce,.slice lk.u m4 lk.cu,p];have h2:=BoxL.new (w.alloc (.cells #[k,X,n,.slice lk.p m1 lk.cp,x.kind,x.n,x.name,x.op,.slice lk.x x.kids.length lk.cx,.slice lk.b m2 lk.cb,.slice lk.e m3 lk.ce,.slice lk.u m4 lk.cu,p] 41)) 41 [k2,X2,n2,.slice lk'.p m1' lk'.cp,x2.kind,x2.n,x2.name,x2.op,.slice lk'.x x2.kids.length lk'.cx,.slice lk'.b m2' lk'.cb,.slice lk'.e m3' lk'.ce,.slice lk'.u m4' lk'.cu,p2];rw[z0j] at h2;exact⟨(h1.low (by simp) (z0b _ _)).low (by simp) hb,h2.low (by simp) hb⟩
 go_enter Tryz.func26,Tryz.ntmps26;go_wp2_with (first | (go_at_call 38;go_must ((with_reducible refine(K4.out _ (z0a w _ _)).mono ?_);rintro e v4 ⟨rfl,hb4⟩;have HT4:=zz hb4;clear hb4;obtain⟨u1,u2⟩:=HBX.out _ HT4.out;obtain⟨c0,c1,c2,c3,c4,c5,c6,c7,c8,c9,c10,c11,c12⟩:=u1.all13;obtain⟨d0,d1,d2,d3,d4,d5,d6,d7,d8,d9,d10,d11,d12⟩:=u2.all13;clear u1 u2 c0 c1 c2 c12 d0 d1 d2 d12)) | (go_at_call 39;go_must ((with_reducible refine(K5.out _ ((z0a w _ _).trans (HT4.out.mono (by simp;omega)))).mono ?_);rintro e v5 ⟨rfl,hb5⟩;have HT5:=zz (HT4.out.trans (hb5.mono HT4.out.size));clear hb5;obtain⟨u1,u2⟩:=HBX.out _ HT5.out;obtain⟨c0,c1,c2,c3,c4,c5,c6,c7,c8,c9,c10,c11,c12⟩:=u1.all13;obtain⟨d0,d1,d2,d3,d4,d5,d6,d7,d8,d9,d10,d11,d12⟩:=u2.all13;clear u1 u2 c0 c1 c2 c12 d0 d1 d2 d12)) | (go_at_call 12;((with_reducible refine(K6.out _ ((z0a w _ _).trans (HT5.out.mono (by simp;omega)))).mono ?_);rintro e v6 ⟨rfl,hb6⟩;have HT6:=zz (HT5.out.trans (hb6.mono HT5.out.size));clear hb6 K6;obtain⟨u1,u2⟩:=HBX.out _ HT6.out;obtain⟨c0,c1,c2,c3,c4,c5,c6,c7,c8,c9,c10,c11,c12⟩:=u1.all13;obtain⟨d0,d1,d2,d3,d4,d5,d6,d7,d8,d9,d10,d11,d12⟩:=u2.all13;clear u1 u2 c0 c1 c2 c12 d0 d1 d2 d12)) | (go_at_call 12;go_must ((with_reducible refine(K7.out _ ((z0a w _ _).trans (HT6.out.mono (by simp;omega)))).mono ?_);rintro e v7 ⟨rfl,hb7⟩;have HT7:=zz (HT6.out.trans (hb7.mono HT6.out.size));clear hb7;obtain⟨u1,u2⟩:=HBX.out _ HT7.out;obtain⟨c0,c1,c2,c3,c4,c5,c6,c7,c8,c9,c10,c11,c12⟩:=u1.all13;obtain⟨d0,d1,d2,d3,d4,d5,d6,d7,d8,d9,d10,d11,d12⟩:=u2.all13;clear u1 u2 c0 c1 c2 c12 d0 d1 d2 d12)) | (go_at_call 40;go_must ((with_reducible refine(K8.out _ ((z0a w _ _).trans (HT7.out.mono (by simp;omega)))).mono ?_);rintro e v8 ⟨rfl,hb8⟩;have HT8:=zz (HT7.out.trans (hb8.mono HT7.out.size));clear hb8)));go_ret;exact⟨rfl,(z0a w _ _).trans (HT8.out.mono (by simp;omega))⟩
theorem x4o (k:Int) (nm:Bs) (n:Int) (ps:List Pt) (x:Ex) (b e:List Cm) (u:List Ru) (p:Int) (hb:∀ c∈b,PC c) (he:∀ c∈e,PC c) (hu:∀ r∈u,PR r):PC (.mk k nm n ps x b e u p):=by
 intro y lk lk' w hk hk' hf hf';obtain⟨k2,nm2,n2,ps2,x2,b2,e2,u2,p2⟩:=y;rw[z0u] at hk hk';obtain⟨k1,k3,k4,k5,k6⟩:=hk;obtain⟨l1,l3,l4,l5,l6⟩:=hk'
 cases hf with
 | mk f1 f2 f3 f4 f5 f6 f7 f8 f9 f10 f11=>
 cases hf' with
 | mk g1 g2 g3 g4 g5 g6 g7 g8 g9 g10 g11=>
 have K4:Hid (∀ w',Below w.heap.size w w'→Cz 38 #[.slice lk.p ps.length lk.cp,.slice lk'.p ps2.length lk'.cp] w' fun e w2=>e= .returned (.bool (eqB ps ps2))∧Below w'.heap.size w' w2):=zz fun w' hw=>
  y8d _ _ _ _ _ _ ps ps2 w' (z5e.1 (k1.next hw)) (z5e.1 (l1.next hw)) (by omega)
 have K5:Hid (∀ w',Below w.heap.size w w'→Cz 39 #[.agg #[x.kind,x.n,x.name,x.op,.slice lk.x x.kids.length lk.cx],.agg #[x2.kind,x2.n,x2.name,x2.op,.slice lk'.x x2.kids.length lk'.cx]] w' fun e w2=>e= .returned (.bool (eqB x x2))∧Below w'.heap.size w' w2):=zz fun w' hw=>by
  have:=y0x x x2 lk.x lk'.x lk.cx lk'.cx w' (k3.next hw) (l3.next hw) f4 g4;rw[z4q,z4q] at this;exact this
 have K6:Hid (∀ w',Below w.heap.size w w'→Cz 12 #[.slice lk.b b.length lk.cb,.slice lk'.b b2.length lk'.cb] w' fun e w2=>e= .returned (.bool (eqB (b.map stC) (b2.map stC)))∧Below w'.heap.size w' w2):=zz fun w' hw=>
  z4x b b2 hb _ _ _ _ w' (k4.next hw) (l4.next hw) f9 g9 f6
 have K7:Hid (∀ w',Below w.heap.size w w'→Cz 12 #[.slice lk.e e.length lk.ce,.slice lk'.e e2.length lk'.ce] w' fun e' w2=>e'= .returned (.bool (eqB (e.map stC) (e2.map stC)))∧Below w'.heap.size w' w2):=zz fun w' hw=>
  z4x e e2 he _ _ _ _ w' (k5.next hw) (l5.next hw) f10 g10 f7
 have K8:Hid (∀ w',Below w.heap.size w w'→Cz 40 #[.slice lk.u u.length lk.cu,.slice lk'.u u2.length lk'.cu,.func (.func 41) #[] #[]] w' fun e w2=>e= .returned (.bool (eqB (u.map stR) (u2.map stR)))∧Below w'.heap.size w' w2):=zz fun w' hw=>
  x0u u u2 hu _ _ _ _ w' (k6.next hw) (l6.next hw) f11 g11 f8
 have gx:=z2s (x:=nm) (y:=nm2) (X:=⟨nm.toArray⟩) (Y:=⟨nm2.toArray⟩) rfl rfl;have no:¬ (k=k2∧nm=nm2∧n=n2∧ps=ps2∧x=x2∧b.map stC=b2.map stC∧e.map stC=e2.map stC∧u.map stR=u2.map stR)→eqB (stC (.mk k nm n ps x b e u p)) (stC (.mk k2 nm2 n2 ps2 x2 b2 e2 u2 p2))=false:=fun h=>z0x fun h'=>h (y7x.1 h')
 by_cases q1:k=k2
 ·have h1:(k==k2)=true:=by simp[q1]
  by_cases q2:nm=nm2
  ·rw[z0v q2] at gx
   by_cases q3:n=n2
   ·have h3:(n==n2)=true:=by simp[q3]
    by_cases q4:ps=ps2
    ·rw[z0v q4] at K4
     by_cases q5:x=x2
     ·rw[z0v q5] at K5
      by_cases q6:b.map stC=b2.map stC
      ·rw[z0v q6] at K6
       by_cases q7:e.map stC=e2.map stC
       ·rw[z0v q7] at K7
        by_cases q8:u.map stR=u2.map stR
        ·rw[z0v q8] at K8
         rw[z0v (y7x.2 ⟨q1,q2,q3,q4,q5,q6,q7,q8⟩)];exact y9n k n p k2 n2 p2 _ _ x x2 _ _ _ _ _ _ _ _ lk lk' w h1 gx h3 K4 K5 K6 K7 K8
        ·rw[z0x q8] at K8
         rw[no fun h=>q8 h.2.2.2.2.2.2.2];exact y7u k n p k2 n2 p2 _ _ x x2 _ _ _ _ _ _ _ _ lk lk' w h1 gx h3 K4 K5 K6 K7 K8
       ·rw[z0x q7] at K7
        rw[no fun h=>q7 h.2.2.2.2.2.2.1];exact y8i k n p k2 n2 p2 _ _ x x2 _ _ _ _ _ _ _ _ lk lk' w h1 gx h3 K4 K5 K6 K7
      ·rw[z0x q6] at K6
       rw[no fun h=>q6 h.2.2.2.2.2.1];exact y7q k n p k2 n2 p2 _ _ x x2 _ _ _ _ _ _ _ _ lk lk' w h1 gx h3 K4 K5 K6
     ·rw[z0x q5] at K5
      rw[no fun h=>q5 h.2.2.2.2.1];exact y8g k n p k2 n2 p2 _ _ x x2 _ _ _ _ _ _ _ _ lk lk' w h1 gx h3 K4 K5
    ·rw[z0x q4] at K4
     rw[no fun h=>q4 h.2.2.2.1];exact y9u k n p k2 n2 p2 _ _ x x2 _ _ _ _ _ _ _ _ lk lk' w h1 gx h3 K4
   ·rw[no fun h=>q3 h.2.2.1]
    exact y7i k n p k2 n2 p2 _ _ x x2 _ _ _ _ _ _ _ _ lk lk' w h1 gx (by simp[q3])
  ·rw[z0x q2] at gx
   rw[no fun h=>q2 h.2.1];exact y7k k n p k2 n2 p2 _ _ x x2 _ _ _ _ _ _ _ _ lk lk' w h1 gx
 ·rw[no fun h=>q1 h.1]
  exact y94 k n p k2 n2 p2 _ _ x x2 _ _ _ _ _ _ _ _ lk lk' w (by simp[q1])
theorem x5i:(∀ c,PC c)∧∀ r,PR r:=Cm.ind2 (P:=PC) (Q:=PR) x4o x35
theorem y6c (b b2:List Cm) (A A':OA) (c c':Nat) (w:World) (hk:RowC (LtX w.heap.size) w A b) (hk':RowC (LtX w.heap.size) w A' b2) (hs:∀ x∈b,FitC x) (hs':∀ x∈b2,FitC x) (hm:b.length≤1000000):
  Cz 12 #[.slice A b.length c,.slice A' b2.length c'] w fun e w'=>e= .returned (.bool (eqB (b.map stC) (b2.map stC)))∧Below w.heap.size w w':=
 z4x b b2 (fun x _=>x5i.1 x) A A' c c' w hk hk' hs hs' hm
end Go.Proofs.YtngfihoempcplaaGreatDoor
