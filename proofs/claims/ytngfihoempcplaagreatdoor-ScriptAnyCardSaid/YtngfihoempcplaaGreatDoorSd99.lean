import Derived.Test.YtngfihoempcplaaGreatDoorCf
import Derived.Test.YtngfihoempcplaaGreatDoorStb
import Derived.Test.YtngfihoempcplaaGreatDoorStd
import Derived.Test.YtngfihoempcplaaGreatDoorSc36
import Derived.Test.YtngfihoempcplaaGreatDoorSq1
import Derived.Deep.AppendLies
import Derived.Laws.OwnMore
import Derived.Test.YtngfihoempcplaaGreatDoorSc28
import Derived.Test.YtngfihoempcplaaGreatDoorSd16
import Derived.Test.YtngfihoempcplaaGreatDoorSm4
import Derived.Test.YtngfihoempcplaaGreatDoorSc42
import Derived.Test.YtngfihoempcplaaGreatDoorSc43
namespace Go.Proofs.YtngfihoempcplaaGreatDoor
open Go Go.RowKit
set_option maxRecDepth 100000
set_option maxHeartbeats 8000000
section
theorem x1a:∀ j,j<16→kindW (wordsC.getD j [])=j+1:=by decide
theorem y03 {w:Bs} {j:Nat} (hj:j<16):w=wordsC.getD j [] ↔ kindW w=j+1:=by
 constructor
 ·rintro rfl;exact x1a j hj
 ·intro h
  unfold kindW at h
  split at h
  ·rename_i hm
   have hl:=List.idxOf_lt_length_of_mem hm;have e:List.idxOf w wordsC=j:=by omega
   have:=List.getElem_idxOf hl;rw[List.getD_eq_getElem?_getD,←e,List.getElem?_eq_getElem hl,this];rfl
  ·omega
theorem x3s (j:Nat):(wdS j).data.toList=wordsC.getD j []:=by unfold wdS;simp
theorem x2q {l:List Tok} {k:Nat} (h1:(nxz l k).kind=1) {j:Nat} (hj:j<16):isT l 1 (wdS j).data.toList k=decide (kindW (nxz l k).word=j+1):=by
 unfold isT;rw[x3s];by_cases e:kindW (nxz l k).word=j+1
 ·rw[decide_eq_true e];exact decide_eq_true ⟨h1,(y03 hj).2 e⟩
 ·rw[decide_eq_false e];exact decide_eq_false fun h=>e ((y03 hj).1 h.2)
theorem x1x {l:List Tok} {k:Nat} (h1:¬ (nxz l k).kind=1) (j:Nat):isT l 1 (wdS j).data.toList k=decide (0=j+1):=by
 rw[decide_eq_false (by omega)];unfold isT;exact decide_eq_false fun h=>h1 h.1
noncomputable def cmdG (l:List Tok) (blk:Nat→Nat→Rz (List Cm)) (d k:Nat):Rz Cm:=if (nxz l k).kind=1 then cmdF l blk d k else .bad k false
theorem y04 {l:List Tok} {z:Int} (h3:z≠3) (h11:z≠11) (k:Nat):numF l z k=(kindF l 2 k).then fun t j=> .ok t.n j:=by
 unfold numF;rw[if_neg (fun e=>h3 e.1),if_neg (fun e=>h11 e.1)]
section
variable {b:Nat} {S:BA} {A:OA} {n c:Nat} {l:List Tok} {blk:Nat→Nat→Rz (List Cm)} {k0:Nat}
theorem blE (HB:BlkD b S A n c l blk k0) {d k o:Nat} {R:Rz (List Cm)} (hk:o=0→k0≤k∧d≤16) (hd:d≤99) (h:gate o k (blk d)=R):BlD b S A n c l d k o R:=blD b S A n c l blk k0 HB d k o hk hd h
theorem ruE (hIn:BlkIn l blk) (HB:BlkD b S A n c l blk k0) {d k o:Nat} {R:Rz (List Ru)} (hk:o=0→k0≤k∧d≤16) (hd:d≤98) (h:gate o k (rulesF l blk d)=R):RusDC b S A n c l d k o R:=zz fun w' h'=>by subst h;exact y5k b S A n c l blk hIn k0 HB d k o w' hk hd h'
theorem y68 (hIn:BlkIn l blk) (HB:BlkD b S A n c l blk k0) (d k:Nat) (w:World) (hd:d≤16) (hk0:k0≤k+1) (h:DocS b w S A n c l k 0) (hk1:(nxz l k).kind=1):
  Cz 35 #[pP b,d] w (CmdD b w S A n c l (cmdF l blk d k)):=by
 have hkl:k<l.length:=z17 (by rw[hk1];decide);have hlen:=h.len;have hkn:k+1≤n:=by omega
 have hk2:k+1≤l.length:=hkl;have ht:l[k]?=some (nxz l k):=by rw[z11 (List.getElem?_eq_getElem hkl)];exact List.getElem?_eq_getElem hkl
 obtain⟨K,hK⟩:∃ K,K=kindW (nxz l k).word:=⟨_,rfl⟩;have hK16:=y5a (nxz l k).word;have KW:∀ j,j<16→IsC b S A n c l 1 (wdS j) k 0 (decide (K=j+1)):=fun j hj=>isC b S A n c l 1 (by decide) (wdS j) k 0 (by rw[hK];exact x2q hk1 hj)
 rw[←hK] at hK16;have hcases:K=0∨K=1∨K=2∨K=3∨K=4∨K=5∨K=6∨K=7∨K=8∨K=9∨K=10∨K=11∨K=12∨K=13∨K=14∨K=15∨K=16:=by omega
 have atge:∀ {α:Type} {R:Rz α} {i m:Nat},R.within i m→R.err=0→i≤R.at∧R.at≤m:=fun {α R i m} hw he=>by
  obtain⟨x,j,hx⟩:=z04 he;subst hx;exact hw
 rcases hcases with rfl | rfl | rfl | rfl | rfl | rfl | rfl | rfl | rfl | rfl | rfl | rfl | rfl | rfl | rfl | rfl | rfl
 ·have e:cmdF l blk d k= .bad k false:=by unfold cmdF;dsimp only;rw[←hK];rfl
  rw[e];exact z7u b w S A n c l d k h _ ht _ (by decide) KW _ (.k0 (faiC (z:=1) b S A n c l k 1 k 0 (.inl rfl) h.le rfl (if_pos rfl) (if_pos rfl)) rfl)
 ·have e:cmdF l blk d k=(nameF l (k+1)).then fun s i=>(kindF l 3 i).then fun t j=> .ok (Cm.mk 1 s 0 t.parts exNone [] [] [] (nxz l k).pl) j:=by
   unfold cmdF;dsimp only;rw[←hK];unfold textF;simp only[Rz.then_assoc];rfl
  exact y2r b w S A n c l d k h _ ht _ (by decide) KW _ (.k1 _ _ (naC b S A n c l (k+1) 0 (z0f _ _)) (takC b S A n c l 3 (by decide) _ _ rfl)
   (fun s tk hs ht=>fin3 ht (g:=fun t=>Cm.mk 1 s 0 t.parts exNone [] [] [] (nxz l k).pl) (e.trans (z1m hs (kindF l 3) (fun s t j=> .ok (Cm.mk 1 s 0 t.parts exNone [] [] [] (nxz l k).pl) j)))) (fun he=>(z0w (Rz.err_cases _) he).1))
 ·have e:cmdF l blk d k=(nameF l (k+1)).then fun s i=>(condF l i).then fun x j=> .ok (Cm.mk 2 s 0 [] x [] [] [] (nxz l k).pl) j:=by unfold cmdF;dsimp only;rw[←hK];rfl
  exact y2r b w S A n c l d k h _ ht _ (by decide) KW _ (.k2 _ _ (naC b S A n c l (k+1) 0 (z0f _ _)) (coD b S A n c l _ _ rfl)
   (fun s x hs hx=>fin3 hx (g:=fun x=>Cm.mk 2 s 0 [] x [] [] [] (nxz l k).pl) (e.trans (z1m hs (condF l) (fun s x j=> .ok (Cm.mk 2 s 0 [] x [] [] [] (nxz l k).pl) j)))) (fun he=>(z0w (Rz.err_cases _) he).1))
 ·have e:cmdF l blk d k=(nameF l (k+1)).then fun s i=>(numF l 3 i).then fun z j=> .ok (Cm.mk 3 s z [] exNone [] [] [] (nxz l k).pl) j:=by unfold cmdF;dsimp only;rw[←hK];rfl
  have K1:=naC b S A n c l (k+1) 0 (z0f (k+1) (nameF l));have hin1:=z1u (l:=l) hk2;generalize nameF l (k+1)=R1 at K1 e hin1
  cases hv:isO l 4 [45] R1.at R1.err with
  | true=>
    obtain⟨e9,hti⟩:=z16 (by decide) hv;obtain⟨s1,i1,rfl⟩:=z04 e9;have hti:isT l 4 [45] i1=true:=hti;have hi1:i1+1≤n:=by have:=z1q hti (by decide);omega
    have e2:cmdF l blk d k=(kindF l 2 (i1+1)).then fun t j=> .ok (Cm.mk 3 s1 (-t.n) [] exNone [] [] [] (nxz l k).pl) j:=by
     rw[e];show (numF l 3 i1).then _=_
     unfold numF;rw[if_pos ⟨rfl,hti⟩,Rz.then_assoc];rfl
    have KT:=takC b S A n c l 2 (by decide) (i1+1) 0 (z0f (i1+1) (kindF l 2))
    have hb:∀ y j,kindF l 2 (i1+1)= .ok y j→0≤y.n∧y.n≤9223372036854775807:=fun y j hy=>by
     unfold kindF at hy
     split at hy
     ·rename_i h2
      injection hy with hy _
      subst hy;have hlt:=z17 (l:=l) (k:=i1+1) (by rw[h2];decide);have hm:=h.fit.ok _ (List.getElem_mem hlt);have hm2:=(h.fit.fit _ (List.getElem_mem hlt)).n;rw[z11 (List.getElem?_eq_getElem hlt)] at h2 ⊢;unfold okT at hm;rw[if_pos h2] at hm;simp at hm;exact⟨hm.1.2,hm2.2⟩
     ·cases hy
    refine y2r b w S A n c l d k h _ ht _ (by decide) KW _ (.k3y s1 i1 hi1 _ K1 (isC b S A n c l 4 (by decide) ⟨#[45]⟩ i1 0 hti) KT (fun s tn hs htn=>?_));obtain rfl:=hs _ _ rfl;have hf:=fin3 htn (g:=fun t=>Cm.mk 3 s1 (-t.n) [] exNone [] [] [] (nxz l k).pl) e2;refine⟨hf.1,hf.2.1,fun y j hy=>?_⟩;have hy2:=hf.2.2 y j hy;have he:(kindF l 2 (i1+1)).err=0:=by rw[←hf.2.1,hy];rfl
    obtain⟨y3,j3,h3⟩:=z04 he;have:=hb y3 j3 h3;rw[htn y3 j3 h3] at this;rw[hy2,y42 this]
  | false=>
    have e2:∀ s,(∀ y j,R1= .ok y j→y=s)→cmdF l blk d k=(gate R1.err R1.at (kindF l 2)).then fun t j=> .ok (Cm.mk 3 s t.n [] exNone [] [] [] (nxz l k).pl) j:=fun s hs=>by
     rw[e]
     cases R1 with
     | bad j dd=>cases dd <;> rfl
     | ok y j=>
       obtain rfl:=hs y j rfl;show (numF l 3 j).then _=(kindF l 2 j).then _
       unfold numF;rw[if_neg (fun q=>by have:=q.2;rw[show isT l 4 [45] j=false from hv] at this;cases this),if_neg (fun q=>by have:=q.1;omega),Rz.then_assoc];rfl
    exact y2r b w S A n c l d k h _ ht _ (by decide) KW _ (.k3n _ _ K1 (isC b S A n c l 4 (by decide) ⟨#[45]⟩ R1.at R1.err hv) (takC b S A n c l 2 (by decide) _ _ rfl) (fun s tn hs htn=>fin3 htn (g:=fun t=>Cm.mk 3 s t.n [] exNone [] [] [] (nxz l k).pl) (e2 s hs)) (fun he=>(z0w (Rz.err_cases _) he).1))
 ·have e:cmdF l blk d k=(condF l (k+1)).then fun x i=>(blk d i).then fun xs j=>if isT l 1 [101,108,115,101] j then (blk d (j+1)).then fun ys m=> .ok (Cm.mk 4 [] 0 [] x xs ys [] (nxz l k).pl) m else .ok (Cm.mk 4 [] 0 [] x xs [] [] (nxz l k).pl) j:=by unfold cmdF;dsimp only;rw[←hK];rfl
  have e2:∀ x,(∀ y j,condF l (k+1)= .ok y j→y=x)→cmdF l blk d k=(gate (condF l (k+1)).err (condF l (k+1)).at (blk d)).then fun xs j=>if isT l 1 [101,108,115,101] j then (blk d (j+1)).then fun ys m=> .ok (Cm.mk 4 [] 0 [] x xs ys [] (nxz l k).pl) m else .ok (Cm.mk 4 [] 0 [] x xs [] [] (nxz l k).pl) j:=fun x hx=>e.trans (z1m hx (blk d) (fun x xs j=>if isT l 1 [101,108,115,101] j then (blk d (j+1)).then fun ys m=> .ok (Cm.mk 4 [] 0 [] x xs ys [] (nxz l k).pl) m else .ok (Cm.mk 4 [] 0 [] x xs [] [] (nxz l k).pl) j))
  have K2:=blE (b:=b) (S:=S) (A:=A) (n:=n) (c:=c) (l:=l) HB (d:=d) (k:=(condF l (k+1)).at) (o:=(condF l (k+1)).err) (fun he=>by have:=atge (z1z hk2) he;omega) (by omega) rfl
  have hin:(gate (condF l (k+1)).err (condF l (k+1)).at (blk d)).err=0→k0≤(gate (condF l (k+1)).err (condF l (k+1)).at (blk d)).at:=fun he=>by
   obtain⟨e0,x,hx⟩:=z0w (Rz.err_cases _) he;have h1:=atge (z1z hk2) e0;have h2:=z0r (hIn d _ h1.2) hx;omega
  have E1:(gate (condF l (k+1)).err (condF l (k+1)).at (blk d)).err=0→(condF l (k+1)).err=0:=fun he=>(z0w (Rz.err_cases _) he).1
  have K1:=coD b S A n c l (k+1) 0 (z0f (k+1) (condF l));generalize gate (condF l (k+1)).err (condF l (k+1)).at (blk d)=R2 at K2 hin e2 E1
  cases hv:isO l 1 [101,108,115,101] R2.at R2.err with
  | true=>
    obtain⟨e9,hti⟩:=z16 (by decide) hv;obtain⟨x2,i2,rfl⟩:=z04 e9;have hti:isT l 1 [101,108,115,101] i2=true:=hti;have hi2:i2+1≤n:=by have:=z1q hti (by decide);omega
    have hk02:k0≤i2:=hin rfl;have K3:=blE (b:=b) (S:=S) (A:=A) (n:=n) (c:=c) (l:=l) HB (d:=d) (k:=i2+1) (o:=0) (R:=blk d (i2+1)) (fun _=>by omega) (by omega) (z0f _ _);refine y95 b w S A n c l d k h _ ht _ (by decide) KW _ (.k4y _ x2 i2 hi2 _ K1 K2 (isC b S A n c l 1 (by decide) ⟨#[101,108,115,101]⟩ i2 0 hti) K3 (fun x xs ys hx hxs hys=>fin3 hys (g:=fun ys=>Cm.mk 4 [] 0 [] x xs ys [] (nxz l k).pl) ?_) (fun _=>E1 rfl));rw[e2 x hx];obtain rfl:=hxs _ _ rfl;exact if_pos hti
  | false=>
    refine y95 b w S A n c l d k h _ ht _ (by decide) KW _ (.k4n _ R2 K1 K2 (isC b S A n c l 1 (by decide) ⟨#[101,108,115,101]⟩ R2.at R2.err hv) (fun x xs hx hxs=>fin3 hxs (g:=fun xs=>Cm.mk 4 [] 0 [] x xs [] [] (nxz l k).pl) ?_) E1);rw[e2 x hx]
    cases R2 with
    | bad j dd=>rfl
    | ok y j=>exact if_neg (by rw[show isT l 1 [101,108,115,101] j=false from hv];decide)
 ·have e:cmdF l blk d k=(condF l (k+1)).then fun x i=>(blk d i).then fun xs j=> .ok (Cm.mk 5 [] 0 [] x xs [] [] (nxz l k).pl) j:=by unfold cmdF;dsimp only;rw[←hK];rfl
  exact y95 b w S A n c l d k h _ ht _ (by decide) KW _ (.k5 _ _ (coD b S A n c l (k+1) 0 (z0f _ _)) (blE HB (fun he=>by have:=atge (z1z hk2) he;omega) (by omega) rfl)
   (fun x xs hs hx=>fin3 hx (g:=fun xs=>Cm.mk 5 [] 0 [] x xs [] [] (nxz l k).pl) (e.trans (z1m hs (blk d) (fun x xs j=> .ok (Cm.mk 5 [] 0 [] x xs [] [] (nxz l k).pl) j)))) (fun he=>(z0w (Rz.err_cases _) he).1))
 ·have e:cmdF l blk d k=(nameF l (k+1)).then fun s i=>(blk d i).then fun xs j=> .ok (Cm.mk 6 s 0 [] exNone xs [] [] (nxz l k).pl) j:=by unfold cmdF;dsimp only;rw[←hK];rfl
  exact y2r b w S A n c l d k h _ ht _ (by decide) KW _ (.k6 _ _ (naC b S A n c l (k+1) 0 (z0f _ _)) (blE HB (fun he=>by have:=atge (z1u hk2) he;omega) (by omega) rfl)
   (fun s xs hs hx=>fin3 hx (g:=fun xs=>Cm.mk 6 s 0 [] exNone xs [] [] (nxz l k).pl) (e.trans (z1m hs (blk d) (fun s xs j=> .ok (Cm.mk 6 s 0 [] exNone xs [] [] (nxz l k).pl) j)))) (fun he=>(z0w (Rz.err_cases _) he).1))
 ·have e:cmdF l blk d k=(nameF l (k+1)).then fun s j=> .ok (Cm.mk 7 s 0 [] exNone [] [] [] (nxz l k).pl) j:=by unfold cmdF;dsimp only;rw[←hK];rfl
  exact z7u b w S A n c l d k h _ ht _ (by decide) KW _ (.k7 _ (naC b S A n c l (k+1) 0 (z0f _ _)) (fun s hs=>fin3 hs (g:=fun s=>Cm.mk 7 s 0 [] exNone [] [] [] (nxz l k).pl) e))
 ·have e:cmdF l blk d k=(kindF l 2 (k+1)).then fun t j=> .ok (Cm.mk 8 [] t.n [] exNone [] [] [] (nxz l k).pl) j:=by
   unfold cmdF;dsimp only;rw[←hK];show (numF l 8 (k+1)).then _=_
   rw[y04 (by decide) (by decide),Rz.then_assoc];rfl
  exact z7u b w S A n c l d k h _ ht _ (by decide) KW _ (.k8 _ (takC b S A n c l 2 (by decide) (k+1) 0 (z0f _ _)) (fun tn htn=>fin3 htn (g:=fun t=>Cm.mk 8 [] t.n [] exNone [] [] [] (nxz l k).pl) e))
 ·have e:cmdF l blk d k=(kindF l 2 (k+1)).then fun t j=> .ok (Cm.mk 9 [] t.n [] exNone [] [] [] (nxz l k).pl) j:=by
   unfold cmdF;dsimp only;rw[←hK];show (numF l 9 (k+1)).then _=_
   rw[y04 (by decide) (by decide),Rz.then_assoc];rfl
  exact z7u b w S A n c l d k h _ ht _ (by decide) KW _ (.k9 _ (takC b S A n c l 2 (by decide) (k+1) 0 (z0f _ _)) (fun tn htn=>fin3 htn (g:=fun t=>Cm.mk 9 [] t.n [] exNone [] [] [] (nxz l k).pl) e))
 ·have e:cmdF l blk d k=(kindF l 3 (k+1)).then fun t j=> .ok (Cm.mk 10 [] 0 t.parts exNone [] [] [] (nxz l k).pl) j:=by
   unfold cmdF;dsimp only;rw[←hK];unfold textF;simp only[Rz.then_assoc];rfl
  exact z9a b w S A n c l d k h _ ht _ (by decide) KW _ (.k10 _ (takC b S A n c l 3 (by decide) (k+1) 0 (z0f _ _)) (fun tk ht=>fin3 ht (g:=fun t=>Cm.mk 10 [] 0 t.parts exNone [] [] [] (nxz l k).pl) e))
 ·have e:cmdF l blk d k=(numF l 11 (k+1)).then fun z j=> .ok (Cm.mk 11 [] z [] exNone [] [] [] (nxz l k).pl) j:=by unfold cmdF;dsimp only;rw[←hK];rfl
  cases hv:isT l 1 [110,101,118,101,114] (k+1) with
  | true=>
    have e2:cmdF l blk d k= .ok (Cm.mk 11 [] (-1) [] exNone [] [] [] (nxz l k).pl) (k+1+1):=by
     rw[e];unfold numF;rw[if_neg (fun q=>by have:=q.1;omega),if_pos ⟨rfl,hv⟩];rfl
    exact z9a b w S A n c l d k h _ ht _ (by decide) KW _ (.k11y (by have:=z1q hv (by decide);omega) (isC b S A n c l 1 (by decide) ⟨#[110,101,118,101,114]⟩ (k+1) 0 hv) (by rw[e2];exact⟨rfl,rfl,fun y j h=>by injection h with h;exact h.symm⟩))
  | false=>
    have e2:cmdF l blk d k=(kindF l 2 (k+1)).then fun t j=> .ok (Cm.mk 11 [] t.n [] exNone [] [] [] (nxz l k).pl) j:=by
     rw[e];unfold numF;rw[if_neg (fun q=>by have:=q.1;omega),if_neg (fun q=>by have:=q.2;rw[hv] at this;cases this),Rz.then_assoc];rfl
    exact z9a b w S A n c l d k h _ ht _ (by decide) KW _ (.k11n _ (isC b S A n c l 1 (by decide) ⟨#[110,101,118,101,114]⟩ (k+1) 0 hv) (takC b S A n c l 2 (by decide) (k+1) 0 (z0f _ _)) (fun tn htn=>fin3 htn (g:=fun t=>Cm.mk 11 [] t.n [] exNone [] [] [] (nxz l k).pl) e2))
 ·have e:cmdF l blk d k=(rulesF l blk d (k+1)).then fun us j=> .ok (Cm.mk 12 [] 0 [] exNone [] [] us (nxz l k).pl) j:=by unfold cmdF;dsimp only;rw[←hK];rfl
  exact z9a b w S A n c l d k h _ ht _ (by decide) KW _ (.k12 _ (ruE hIn HB (fun _=>⟨hk0,hd⟩) (by omega) (z0f _ _)) (fun us hs=>fin3 hs (g:=fun us=>Cm.mk 12 [] 0 [] exNone [] [] us (nxz l k).pl) e))
 ·have e:cmdF l blk d k=(rulesF l blk d (k+1)).then fun us j=> .ok (Cm.mk 13 [] 0 [] exNone [] [] us (nxz l k).pl) j:=by unfold cmdF;dsimp only;rw[←hK];rfl
  exact z9a b w S A n c l d k h _ ht _ (by decide) KW _ (.k13 _ (ruE hIn HB (fun _=>⟨hk0,hd⟩) (by omega) (z0f _ _)) (fun us hs=>fin3 hs (g:=fun us=>Cm.mk 13 [] 0 [] exNone [] [] us (nxz l k).pl) e))
 ·have e:cmdF l blk d k=(rulesF l blk d (k+1)).then fun us j=> .ok (Cm.mk 14 [] 0 [] exNone [] [] us (nxz l k).pl) j:=by unfold cmdF;dsimp only;rw[←hK];rfl
  exact z9a b w S A n c l d k h _ ht _ (by decide) KW _ (.k14 _ (ruE hIn HB (fun _=>⟨hk0,hd⟩) (by omega) (z0f _ _)) (fun us hs=>fin3 hs (g:=fun us=>Cm.mk 14 [] 0 [] exNone [] [] us (nxz l k).pl) e))
 ·have e:cmdF l blk d k= .ok (Cm.mk 15 [] 0 [] exNone [] [] [] (nxz l k).pl) (k+1):=by unfold cmdF;dsimp only;rw[←hK];rfl
  exact z7u b w S A n c l d k h _ ht _ (by decide) KW _ (.k15 (by rw[e];exact⟨rfl,rfl,fun y j h=>by injection h with h;exact h.symm⟩))
 ·have e:cmdF l blk d k= .ok (Cm.mk 16 [] 0 [] exNone [] [] [] (nxz l k).pl) (k+1):=by unfold cmdF;dsimp only;rw[←hK];rfl
  exact z7u b w S A n c l d k h _ ht _ (by decide) KW _ (.k16 (by rw[e];exact⟨rfl,rfl,fun y j h=>by injection h with h;exact h.symm⟩))
theorem x1v (hIn:BlkIn l blk) (HB:BlkD b S A n c l blk k0) (d k:Nat) (w:World) (hd:d≤16) (hk0:k0≤k+1) (hkl:k<l.length) (h:DocS b w S A n c l k 0):
  Cz 35 #[pP b,d] w (CmdD b w S A n c l (cmdG l blk d k)):=by
 unfold cmdG;by_cases hk1:(nxz l k).kind=1
 ·rw[if_pos hk1];exact y68 hIn HB d k w hd hk0 h hk1
 ·rw[if_neg hk1]
  have ht:l[k]?=some (nxz l k):=by rw[z11 (List.getElem?_eq_getElem hkl)];exact List.getElem?_eq_getElem hkl
  exact z7u b w S A n c l d k h _ ht 0 (by decide) (fun j _=>isC b S A n c l 1 (by decide) (wdS j) k 0 (x1x hk1 j)) _ (.k0 (faiC (z:=1) b S A n c l k 1 k 0 (.inl rfl) h.le rfl (if_pos rfl) (if_pos rfl)) rfl)
end
end
section
theorem y55 {l:List Tok} {N d k:Nat} (h:k<l.length∧¬ isT l 4 [125] k=true):cmdsD l (N+1) d k=(cmdG l (blockF l (cmdsD l N)) d k).then fun c i=>(cmdsD l N d i).then fun cs m=> .ok (c::cs) m:=by
 rw[cmdsD,if_pos h];unfold cmdG
 split <;> rfl
theorem y5n {l:List Tok} {N d k:Nat} (h:¬ (k<l.length∧¬ isT l 4 [125] k=true)):cmdsD l N d k= .ok [] k:=by
 cases N <;> rw[cmdsD,if_neg h]
theorem x3k {l:List Tok} {blk:Nat→Nat→Rz (List Cm)} (hb:BlkIn l blk) {d k:Nat} (h:k<l.length):(cmdG l blk d k).within (k+1) l.length:=by
 unfold cmdG
 split
 ·exact y0r hb h
 ·exact Nat.le_of_lt h
theorem isBw {b:Nat} {S:BA} {A:OA} {n c:Nat} {l:List Tok} {kd:Int} {W:BA} {k o:Nat} {v:Bool} (K:IsC b S A n c l kd W k o v) {w:World} (h:DocS b w S A n c l k o) (m:Bw w):
 Cz 34 #[pP b,kd,W] m.at fun e w''=>e= .returned (.bool v)∧∃ m':Bw w,w''=m'.at:=z4s (K.out m.at (h.low m.2))
abbrev CmdDC (b:Nat) (S:BA) (A:OA) (n c:Nat) (l:List Tok) (d k:Nat) (R:Rz Cm):Prop:=Hid (∀ w',DocS b w' S A n c l k 0→Cz 35 #[pP b,d] w' fun e w2=>
 ∃ (x:Cm) (lk:Lk),e= .returned (.agg #[x.kind,x.name,x.n,.slice lk.p x.parts.length lk.cp,x.cond.kind,x.cond.n,x.cond.name,x.cond.op,.slice lk.x x.cond.kids.length lk.cx,
  .slice lk.b x.body.length lk.cb,.slice lk.e x.els.length lk.ce,.slice lk.u x.rules.length lk.cu,x.pl])∧StepD b w' S A n c l R.at R.err w2∧(∀ y j,R= .ok y j→y=x)∧(R.err=0→KidC (NwX b w'.heap.size w2.heap.size) w2 lk x))
structure CmJ (b:Nat) (w:World) (S:BA) (A:OA) (n c:Nat) (l:List Tok) (N k0 d:Nat) (R:Rz (List Cm)) (M:Nat) (v:Value) (wr:World) (es:List XC) (k o:Nat):Prop where
 row:RoH cfC 13 41 KPC b w wr S A n c l k o v es
 eq:R=(gate o k (cmdsD l M d)).then fun cs m=> .ok (es.map (·.1)++cs) m
 fuel:o=0→n<k+M∧k0≤k∧d≤16∧es.length≤k
 le:M≤N
section
variable {b:Nat} {w wr w' w2 w3:World} {S:BA} {A:OA} {n c:Nat} {l:List Tok} {N k0 d:Nat} {R:Rz (List Cm)} {M:Nat} {v:Value} {es:List XC} {k o:Nat}
theorem CmJ.stop (h:CmJ b w S A n c l N k0 d R M v wr es k o) (hk:o=0→¬ (k<l.length∧¬ isT l 4 [125] k=true)) (hb:Below wr.heap.size wr w'):RowD b w S A n c l R (.returned v) w':=by
 have hR:=h.row.below monoC hb;obtain⟨A',c',rfl,hrow⟩:=y9h hR;have hoks:=h.row.cx.rd.oks;by_cases ho:o=0
 ·subst ho
  have e1:R= .ok (es.map (·.1)) k:=by
   rw[h.eq,z0f,y5n (hk rfl)];show Rz.ok (es.map (·.1)++[]) k=_;rw[List.append_nil]
  rw[e1];exact⟨A',es.map (·.1),c',rfl,hR.cx.step,fun y j e=>by injection e with e;exact e.symm,fun _=>hrow rfl⟩
 ·have ho2:=hoks.resolve_left ho
  have e1:R.at=k∧R.err=o∧∀ y j,R≠ .ok y j:=by
   rw[h.eq]
   rcases ho2 with rfl | rfl <;> exact⟨rfl,rfl,fun _ _ e=>by cases e⟩
  refine⟨A',es.map (·.1),c',rfl,?_,fun y j e=>absurd e (e1.2.2 y j),fun e=>absurd (e1.2.1.symm.trans e) ho⟩;rw[e1.1,e1.2.1];exact hR.cx.step
theorem CmJ.step (h:CmJ b w S A n c l N k0 d R M v wr es k o) (hb:Below wr.heap.size wr w'):CmJ b w S A n c l N k0 d R M v w' es k o:=⟨h.row.below monoC hb,h.eq,h.fuel,h.le⟩
theorem CmJ.more (h:CmJ b w S A n c l N k0 d R (M+1) v wr es k 0) (hk1:k<l.length∧¬ isT l 4 [125] k=true) {x:Cm} {lk:Lk}
  (hs:StepD b wr S A n c l (cmdG l (blockF l (cmdsD l M)) d k).at (cmdG l (blockF l (cmdsD l M)) d k).err w2) (hv:∀ y j,cmdG l (blockF l (cmdsD l M)) d k= .ok y j→y=x) (hk:(cmdG l (blockF l (cmdsD l M)) d k).err=0→KidC (NwX b wr.heap.size w2.heap.size) w2 lk x)
  {g cap:Nat} (hr:w3.ownsRow w.heap.size 41 13 (.slice (some ⟨g,0,none⟩) (es.length+1) cap) (es.length+1) (es.flatMap cfC++cfC (x,lk))) (o:Obj) (hg:(w2.alloc o).grownBy w3 v.ownBlock) (hvg:v.ownBlock=some g∨g=w2.heap.size+1):
  CmJ b w S A n c l N k0 d R M (.slice (some ⟨g,0,none⟩) (es.length+1) cap) w3 (es++[(x,lk)]) (cmdG l (blockF l (cmdsD l M)) d k).at (cmdG l (blockF l (cmdsD l M)) d k).err:=by
 have hf:=h.fuel rfl;have hlen:=h.row.cx.rd.len;have hin:=x3k (z26 (z41 M)) (d:=d) hk1.1;refine⟨?_,?_,fun h0=>?_,by have:=h.le;omega⟩
 ·refine((h.row.call monoC hs fun _=>rfl).box monoC o).push monoC (x:=(x,lk)) (fun h0=>?_) hr hg (by simpa using hvg)
  have hown:=h.row.own
  exact((hk h0).of (w':=w2.alloc o) (fun p hp=>World.cell?_of_block (((Below.refl w2.heap.size w2).alloc nR o).block _ (by have:=hs.1.size;have:=h.row.cx.lt;have:=h.row.cx.gr.size;rcases hp with hp | hp <;> omega))) fun _ h=>h).of (fun _ _=>rfl) fun q hq=>
   OwX.of_new (g:=v.ownBlock) h.row.cx.gr.size (fun q hq=>(hown q hq).2) q (NwX.wide nR (by simp) q hq)
 ·rw[h.eq,z0f,y55 hk1,Rz.then_assoc]
  refine(z1a (g:=fun i=>(cmdsD l M d i).then fun cs m=> .ok ((es++[(x,lk)]).map (·.1)++cs) m) fun y j hy=>?_).trans (z1k _ _ _ _);rw[hv y j hy,Rz.then_assoc];simp only[List.map_append,List.map_cons,List.map_nil,List.append_assoc,List.singleton_append]
  rfl
 ·obtain⟨y,j,hq⟩:=z04 h0
  have h1:=z0r hin hq;rw[hq];show n<j+M∧k0≤j∧d≤16∧(es++[(x,lk)]).length≤j;simp;omega
end
theorem y6p (b:Nat) (S:BA) (A:OA) (n c:Nat) (l:List Tok) (N k0:Nat) (hN:n<k0+N) (IH:∀ M,M<N→∀ k1,n<k1+M→RecD b S A n c l (cmdsD l M) k1):RecD b S A n c l (cmdsD l N) k0:=by
 intro d k o w hk hd h;have hn:=h.few;obtain⟨R,hR⟩:∃ R,R=gate o k (cmdsD l N d):=⟨_,rfl⟩;rw[←hR]
 have HS:Hid (CmJ b w S A n c l N k0 d R N (.slice none 0 0) w [] k o):=zz ⟨RoH.start h,by
  rw[hR]
  cases gate o k (cmdsD l N d) <;> rfl,fun h0=>by have:=hk h0;simp;omega,Nat.le_refl _⟩
 have KQ:Hid (∀ k' v,isT l 4 [125] k'=v→IsC b S A n c l 4 ⟨#[125]⟩ k' 0 v):=zz fun k' v hv=>isC b S A n c l 4 (by decide) ⟨#[125]⟩ k' 0 hv
 have KC:Hid (∀ M k',M+1≤N→n<k'+(M+1)→d≤16→k'<l.length→CmdDC b S A n c l d k' (cmdG l (blockF l (cmdsD l M)) d k')):=zz fun M k' h1 h2 h3 h4=>zz fun w' h'=>
  x1v (z26 (z41 M)) (y5t b S A n c l (cmdsD l M) (k'+1) (IH M (by omega) (k'+1) (by omega))) d k' w' h3 nR h4 h'
 obtain⟨i0,hi0,hz0,hz1,hz2⟩:=info_parts infoC;have hlen:=h.len;have HLN:=zz hlen.1;clear hR hk hN IH h hlen;unfold RowD;go_enter Tryz.func19,Tryz.ntmps19;go_wp2
 go_loopg [5] N (fun M v wr=>∃ (es:List XC) (k' o' M':Nat),Hid (M=M')∧Hid (CmJ b w S A n c l N k0 d R M' v wr es k' o'))
 case atStart=>exact⟨_,_,_,_,zz rfl,HS⟩
 case round=>
  obtain⟨es,k',o',M',HMM,HJ⟩:=hrel;have hbl:=HJ.out.row.cx.rd.lt;obtain⟨d1,d4⟩:=HJ.out.row.cx.rd.c14;by_cases o0:o'=0
  ·subst o0
   have d2:=HJ.out.row.cx.rd.at0;have hf:=HJ.out.fuel rfl;have hk'n:=HJ.out.row.cx.rd.le;by_cases hkn:k'<n
   ·have hkI:(k':Int)<n:=by omega
    have hkL:k'<l.length:=by have:=HLN.out;omega
    have p1:=z06 d1;have p2:=z06 d2;have p4:=z06 d4;have hne:=z1i wr;have HRD:=zz HJ.out.row.cx.rd
    cases hv:isT l 4 [125] k' with
    | true=>
      have KT:=KQ.out k' _ hv;have HSTP:Hid (¬ (k'<l.length∧¬ isT l 4 [125] k'=true)):=zz fun e=>e.2 hv
      clear hv hf hkL d1 d2 d4;go_wp2;refine z0i (by kernel_rfl) (by kernel_rfl) ?_
      repeat (go_big_quiet_step (first | (go_at_call 34;with_reducible exact isBw KT HRD.out _) | fail))
      refine wpQuiet_nil ?_;intro w5 hw5;obtain⟨m5,rfl⟩:=hw5;have HB5:Hid (Below wr.heap.size wr m5.at):=zz m5.2;clear p1 p2 p4;go_wp2;go_ret;exact HJ.out.stop (fun _=>HSTP.out) HB5.out
    | false=>
      obtain⟨M2,rfl⟩:∃ M2,M'=M2+1:=⟨M' - 1,by omega⟩;have KT:=KQ.out k' _ hv;have K3:=KC.out M2 k' HJ.out.le hf.1 hf.2.2.1 hkL;have HGO:Hid (k'<l.length∧¬ isT l 4 [125] k'=true):=zz ⟨hkL,by rw[hv];decide⟩;have HEL:Hid (es.length≤4000):=zz (by omega);clear hv hf hkL d1 d2 d4;go_wp2;refine z0i (by kernel_rfl) (by kernel_rfl) ?_
      repeat (go_big_quiet_step (first | (go_at_call 34;with_reducible exact isBw KT HRD.out _) | fail))
      refine wpQuiet_nil ?_;intro w5 hw5;obtain⟨m5,rfl⟩:=hw5;have HJ3:Hid (CmJ b w S A n c l N k0 d R (M2+1) _ m5.at es k' 0):=zz (HJ.out.step m5.2);clear p1 p2 p4;go_wp2_with (first | (go_at_call 35;go_must ((with_reducible refine(K3.out _ HJ3.out.row.cx.rd).mono ?_);rintro e w4 ⟨x,lk,rfl,hs4,hv4,hk4⟩;have HRW:=zz ((HJ3.out.row.call monoC hs4 fun _=>rfl).box monoC (.cells #[x.kind,x.name,x.n,.slice lk.p x.parts.length lk.cp,x.cond.kind,x.cond.n,x.cond.name,x.cond.op,.slice lk.x x.cond.kids.length lk.cx,.slice lk.b x.body.length lk.cb,.slice lk.e x.els.length lk.ce,.slice lk.u x.rules.length lk.cu,x.pl] 41));have HS4:=zz hs4;have HV4:=zz hv4;have HK4:=zz hk4;clear hs4 hv4 hk4)) | (at_builtin;refine wpList_append_lies _ rfl (.tmp 28) (.tmp 32) 23 rfl w.heap.size 41 i0 (.agg #[oZ,oS,oZ,(),oZ,oZ,oS,oS,(),(),(),(),oZ]) 13 208 Tryz.underlying23 hi0 hz0 hz1 hz2 rfl (by decide) _ es.length (es.flatMap cfC) rfl HRW.out.row ⟨w4.heap.size,0,none⟩ 1 1 [x.kind,x.name,x.n,.slice lk.p x.parts.length lk.cp,x.cond.kind,x.cond.n,x.cond.name,x.cond.op,.slice lk.x x.cond.kids.length lk.cx,.slice lk.b x.body.length lk.cb,.slice lk.e x.els.length lk.ce,.slice lk.u x.rules.length lk.cu,x.pl] rfl rfl (fun j u hu=>z0k w4 41 #[x.kind,x.name,x.n,.slice lk.p x.parts.length lk.cp,x.cond.kind,x.cond.n,x.cond.name,x.cond.op,.slice lk.x x.cond.kids.length lk.cx,.slice lk.b x.body.length lk.cb,.slice lk.e x.els.length lk.ce,.slice lk.u x.rules.length lk.cu,x.pl] j u hu) (oneC (x,lk)) (by decide) (by have:=HEL.out;unfold maxLen;omega) (by have:=HEL.out;omega) HRW.out.cx.gr.size (w4.heap.size+1) (by simp) ?_;intro g cap w5 ho hg hvg hgl;have HN:=zz (HJ3.out.more HGO.out HS4.out HV4.out HK4.out ho _ hg hvg);clear ho hg hvg hgl))
      go_roundg M2
      case measure=>rw[HMM.out];exact Nat.lt_succ_self _
      case rel=>exact⟨_,_,_,_,zz rfl,HN⟩
   ·have hkI:¬ (k':Int)<n:=by omega
    have HSTP:Hid (¬ (k'<l.length∧¬ isT l 4 [125] k'=true)):=zz fun e=>by have:=HLN.out;omega
    clear hf;go_wp2;go_quiet (fail);go_wp2;go_ret;exact HJ.out.stop (fun _=>HSTP.out) (z0e bR _)
  ·obtain⟨b1,b2,b3,b4⟩:=z1y o0
   have O0:=zz o0;clear o0;go_wp2;go_quiet (fail);go_wp2;go_ret;exact HJ.out.stop (fun e=>absurd e O0.out) (z0e bR _)
theorem y7t (b:Nat) (S:BA) (A:OA) (n c:Nat) (l:List Tok):∀ N k0,n<k0+N→RecD b S A n c l (cmdsD l N) k0:=by
 intro N
 induction N using Nat.strongRecOn with
 | ind N ih=>exact fun k0 h=>y6p b S A n c l N k0 h ih
end
theorem DocS.plx {b:Nat} {w:World} {S:BA} {A:OA} {n c:Nat} {l:List Tok} {k o:Nat} (h:DocS b w S A n c l k o) (ho:o≠0):w.cell? ⟨b,3,none⟩=some (.int .i64 (plD l S k)):=by
 obtain⟨a,p,_,h3,_,_,h6⟩:=h.ex;rw[h6 ho] at h3;exact h3
abbrev readC (s:BA) (A:OA) (n c:Nat):Obj:= .cells #[s,.slice A n c,oZ,oZ,oZ] 58
theorem y0g {w:World} {s:BA} {A:OA} {n c:Nat} {l:List Tok} (h:RdT w.heap.size w A n l) (hf:FitL l) (hn:l.length≤250):DocS w.heap.size (w.alloc (readC s A n c)) s A n c l 0 0:=by
 have hb:Below w.heap.size w (w.alloc (readC s A n c)):=bR.alloc nR _;exact⟨z1e _ _ _ 0 _ rfl,z1e _ _ _ 1 _ rfl,⟨0,0,z1e _ _ _ 2 _ rfl,z1e _ _ _ 3 _ rfl,Nat.zero_le _,fun _=>⟨rfl,rfl⟩,fun e=>absurd rfl e⟩,z1e _ _ _ 4 _ rfl,by simp[go_sem],by simp[go_sem],by simp[go_sem],h.keep hb,hf,Nat.zero_le _,.inl rfl,by rw[h.1];omega⟩
theorem y6u (s:BA) (q:Nat) (e:Int) (he:e=1∨e=2∨e=3) (w:World) (K:Hid (Cz 18 #[s] w (ReadT w [] q e))):Cz 7 #[s] w (ParP w ([],q,e)):=by
 have b1:(e != 0)=true:=by rcases he with rfl | rfl | rfl <;> rfl
 unfold ReadT at K;clear he;go_enter Tryz.func7,Tryz.ntmps7;go_wp2_with (go_at_call 18;go_must ((with_reducible refine(K.out).mono ?_);rintro e w1 ⟨A1,c1,rfl,hr1,hb1⟩;have HB:=zz hb1;clear hb1 hr1))
 go_ret3
 exact⟨none,0,rfl,HB.out,.inl rfl⟩
theorem y7l (s:BA) (ts:List Tok) (hf:FitL ts) (hts:ts.length≤250) (w:World) (K:Hid (Cz 18 #[s] w (ReadT w ts 0 0))):Cz 7 #[s] w (ParP w (ansS ts s.size)):=by
 have K2:Hid (∀ b A c w',DocS b w' s A ts.length c ts 0 0→Cz 19 #[pP b,oZ] w' (RowD b w' s A ts.length c ts (cmdsD ts (ts.length+1) 0 0))):=zz fun b A c w' h'=>
  y7t b s A ts.length c ts (ts.length+1) 0 (by omega) 0 0 0 w' (fun _=>⟨Nat.le_refl _,by omega⟩) (by omega) h'
 have HF:=zz hf;have HT:=zz hts;obtain⟨R,hR⟩:∃ R,R=cmdsD ts (ts.length+1) 0 0:=⟨_,rfl⟩;have hA:allF ts=R.then fun x j=>if j<ts.length then .bad j false else .ok x j:=by rw[←x4s,hR];rfl
 have hin:R.at≤ts.length:=by rw[hR];exact(z41 (l:=ts) (ts.length+1) 0 0 (Nat.zero_le _)).at_le
 rw[←hR] at K2;clear hR hf hts;unfold ReadT at K;unfold RowD at K2;obtain⟨n,hn⟩:∃ n,n=ts.length:=⟨_,rfl⟩;rw[←hn] at K K2;have HN:=zz hn;have hn2:n≤250:=by rw[hn];exact HT.out
 have bad:∀ j d,allF ts= .bad j d→ansS ts s.size=([],plD ts s j,if d then 8 else 1):=fun j d e=>by unfold ansS;rw[e];rfl
 by_cases h0:R.err=0
 ·obtain⟨xs0,j0,hx⟩:=z04 h0
  subst hx;have hj:j0≤n:=by rw[hn];exact hin
  by_cases h1:j0<n
  ·have hans:=bad j0 false (hA.trans (if_pos (by rw[←hn];exact h1)))
   rw[hans];have KR:Hid (∀ b A c,FaiC b s A n c ts j0 1 j0 0 j0 1):=zz fun b A c=>faiC (z:=1) b s A n c ts j0 1 j0 0 (.inl rfl) hj rfl (if_pos rfl) (if_pos rfl)
   have hji:(j0:Int)<n:=by omega
   have hj2:j0≤250:=by omega
   clear hans bad hA hin hn h0 hj;go_enter Tryz.func7,Tryz.ntmps7
   go_wp2_with (first
    | (go_at_call 18;go_must ((with_reducible refine(K.out).mono ?_);rintro e w1 ⟨A1,c1,rfl,hr1,hb1⟩;have HS:=zz (y0g (s:=s) (c:=c1) (by rw[HN.out] at hr1;rw[HN.out];exact hr1) HF.out HT.out:DocS w1.heap.size (w1.alloc (readC s A1 n c1)) s A1 n c1 ts 0 0);have HB:=zz hb1;clear hb1 hr1))
    | (go_at_call 19;go_must ((with_reducible refine(K2.out _ _ _ _ HS.out).mono ?_);rintro e w2 ⟨A2,xs,c2,rfl,hs2,_,_⟩;have HC:Hid (Cy w1.heap.size (w1.alloc (readC s A1 n c1)) w2 s A1 n c1 ts j0 0 []):=zz ((Cy.start HS.out).call hs2);have hb9:=HC.out.rd.lt;obtain⟨d1,d2,d4,_⟩:=HC.out.rd.four0;clear hs2))
    | (go_at_call 20;go_must ((with_reducible refine((KR.out _ _ _).out _ HC.out.rd).mono ?_);rintro e w3 ⟨rfl,hs3⟩;have HD:=zz (HC.out.call hs3);have hb8:=HD.out.rd.lt;have y3:=HD.out.rd.plx (by decide);have y4:=HD.out.rd.c4;clear hs3)))
   go_quiet (fail);go_wp2
   go_ret3
   exact⟨none,0,rfl,HB.out.trans (((z0b w1 _).trans (HD.out.low.trans (z0e bR _))).mono HB.out.size),.inl rfl⟩
  ·have hans:ansS ts s.size=(xs0,0,0):=by
    have e:allF ts= .ok xs0 j0:=hA.trans (if_neg (by rw[←hn];exact h1));unfold ansS;rw[e]
   rw[hans];obtain rfl:j0=n:=by omega
   clear hans bad hA hin hn h0 hj h1;go_enter Tryz.func7,Tryz.ntmps7
   go_wp2_with (first
    | (go_at_call 18;go_must ((with_reducible refine(K.out).mono ?_);rintro e w1 ⟨A1,c1,rfl,hr1,hb1⟩;have HS:=zz (y0g (s:=s) (c:=c1) (by rw[HN.out] at hr1;rw[HN.out];exact hr1) HF.out HT.out:DocS w1.heap.size (w1.alloc (readC s A1 j0 c1)) s A1 j0 c1 ts 0 0);have HB:=zz hb1;clear hb1 hr1))
    | (go_at_call 19;go_must ((with_reducible refine(K2.out _ _ _ _ HS.out).mono ?_);rintro e w2 ⟨A2,xs,c2,rfl,hs2,hv2,hr2⟩;have HC:Hid (Cy w1.heap.size (w1.alloc (readC s A1 j0 c1)) w2 s A1 j0 c1 ts j0 0 []):=zz ((Cy.start HS.out).call hs2);have HV2:=zz hv2;have HR2:=zz hr2;have hb9:=HC.out.rd.lt;obtain⟨d1,d2,d4,_⟩:=HC.out.rd.four0;clear hs2 hv2 hr2)))
   go_ret3
   have hv:=HV2.out xs0 j0 rfl;subst hv
   exact⟨A2,c2,rfl,HB.out.trans (((z0b w1 _).trans HC.out.low).mono HB.out.size),(HR2.out rfl).of (fun _ _=>rfl) fun q hq=>by
    have:=HC.out.gr.size;have:=HC.out.lt;show q<w2.heap.size
    rcases hq with hq | hq <;> omega⟩
 ·have e:∃ d,allF ts= .bad R.at d∧(R.err:Int)=if d then 8 else 1:=by
   cases R with
   | ok x j=>exact absurd rfl h0
   | bad j d=>exact⟨d,hA,by cases d <;> rfl⟩
  obtain⟨d,e,e2⟩:=e;have hans:=bad R.at d e;rw[hans,←e2];obtain⟨b1,b2,b3,b4⟩:=z1y h0;have H0:=zz h0;clear hans bad hA hin hn h0 e e2;go_enter Tryz.func7,Tryz.ntmps7
  go_wp2_with (first
   | (go_at_call 18;go_must ((with_reducible refine(K.out).mono ?_);rintro e w1 ⟨A1,c1,rfl,hr1,hb1⟩;have HS:=zz (y0g (s:=s) (c:=c1) (by rw[HN.out] at hr1;rw[HN.out];exact hr1) HF.out HT.out:DocS w1.heap.size (w1.alloc (readC s A1 n c1)) s A1 n c1 ts 0 0);have HB:=zz hb1;clear hb1 hr1))
   | (go_at_call 19;go_must ((with_reducible refine(K2.out _ _ _ _ HS.out).mono ?_);rintro e w2 ⟨A2,xs,c2,rfl,hs2,_,_⟩;have HC:=zz ((Cy.start HS.out).call hs2);have hb9:=HC.out.rd.lt;have y3:=HC.out.rd.plx H0.out;have d4:=HC.out.rd.c4;clear hs2)))
  go_quiet (fail);go_wp2
  go_ret3
  exact⟨none,0,rfl,HB.out.trans (((z0b w1 _).trans (HC.out.low.trans (z0e bR _))).mono HB.out.size),.inl rfl⟩
theorem y6h (s:BA) (hs:s.size≤250) (w:World):Cz 7 #[s] w (ParP w (parS s.data.toList)):=by
 rcases z7g s hs with ⟨q,e,h,he⟩ | ⟨ts,h,hf,hl⟩
 ·have e1:parS s.data.toList=([],(q:Int),e):=by unfold parS;rw[h]
  rw[e1];exact y6u s q e he w (zz (z8r s (by omega) none q e [] rfl h w))
 ·have e1:parS s.data.toList=ansS ts s.size:=by unfold parS;rw[h];show ansS ts s.data.toList.length=_;rw[z0d]
  rw[e1];exact y7l s ts hf hl w (zz (z8r s (by omega) (some ts) 0 0 ts rfl h w))
section
section
variable {P:Program}
theorem z6e {w:World} (base:Nat) (t ty e:TypeId) (i:TypeInfo) (size:Nat) (ht:P.underlying t=some (.slice e)) (hi:P.info? e=some i) (v:Value) (n:Nat) (xs:List Value) (hown:w.ownsRow base e size v n xs) (A:OA) (c:Nat):
  (Builtin.append_ #[t,t] ty #[v,.slice A 0 c]).run P w= .ok v w:=by
 rcases hown.2 with ⟨rfl,rfl⟩ | ⟨g,cap,cur,rfl,_,_,hnc,_⟩
 ·cases A with
  | none=>simp[Builtin.append_,run_underlying ht,sizeOf,typeInfo,hi,Builtin.lenOf,Builtin.firstCells]
  | some a=>simp[Builtin.append_,run_underlying ht,sizeOf,typeInfo,hi,Builtin.lenOf,Builtin.firstCells,loadCells,loadCellsFrom]
 ·cases A with
  | none=>simp[Builtin.append_,run_underlying ht,sizeOf,typeInfo,hi,Builtin.lenOf,Builtin.firstCells,hnc,storeCells]
  | some a=>simp[Builtin.append_,run_underlying ht,sizeOf,typeInfo,hi,Builtin.lenOf,Builtin.firstCells,loadCells,loadCellsFrom,hnc,storeCells]
theorem z12 {w:World} {ops:Array Oper} {rest:List Oper} {o:Oper} {a:Act} {Q:Exit→Act→World→Prop} (hgd:o.guard=none) (s x:Operand) (t:TypeId)
  (ho:o.op= .call { callee:= .builtin .append,args:=#[s,x],argTypes:=#[t,t] })
  (base:Nat) (e:TypeId) (i:TypeInfo) (z:Value) (size bytes:Nat) (ht:P.underlying t=some (.slice e)) (hi:P.info? e=some i) (hz:i.zero=some z)
  (hsize:i.size=size) (hby:i.bytes=bytes) (hzs:z.cells.size=size) (hsz:0<size)
  (g n cap:Nat) (xs:List Value) (hs:a.eval s= .slice (some ⟨g,0,none⟩) n cap) (hown:w.ownsRow base e size (.slice (some ⟨g,0,none⟩) n cap) n xs)
  (A:OA) (m c:Nat) (news:List Value) (hx:a.eval x= .slice A m c) (hl:news.length=m * size) (hnews:m=0∨∃ ad,A=some ad∧∀ j u,news[j]?=some u→w.cell? (ad.add j)=some u) (h1:∀ u∈news,u.oneCell'=true)
  (h63:n+m≤maxLen) (hbytes:(n+m) * bytes≤140737488355328) (hbase:base≤w.heap.size)
  (h:∀ g' cap' w',w'.ownsRow base e size (.slice (some ⟨g',0,none⟩) (n+m) cap') (n+m) (xs++news)→w.grownBy w' (some g)→(g'=g∨g'=w.heap.size)→wpList P ops Q rest (a.put o.dst (.slice (some ⟨g',0,none⟩) (n+m) cap')) w'):wpList P ops Q (o::rest) a w:=by
 by_cases hm:m=0
 ·subst hm
  have hn:news=[]:=List.eq_nil_of_length_eq_zero (by omega);refine wpList_plain hgd fun K hK=>?_
  have hrun:=z6e (P:=P) (w:=w) base t o.type e i size ht hi _ n xs hown A c;unfold Oper.wp;simp[execOp,ho,resolve,invoke,builtin,hs,hx,hrun,Result.andThen];exact hK _ _ (h g cap w (by rw[hn,List.append_nil];exact hown) ⟨rfl,rfl,rfl,Nat.le_refl _,fun _ _ _=>rfl⟩ (.inl rfl))
 ·obtain⟨ad,rfl,hc⟩:=hnews.resolve_left hm
  exact wpList_append_lies w hgd s x t ho base e i z size bytes ht hi hz hsize hby hzs hsz _ n xs hs hown ad m c news hx hl hc h1 (by omega) h63 hbytes hbase _ rfl fun g' cap' w' h2 h3 h4 _=>
   h g' cap' w' h2 h3 (by rcases h4 with h4 | h4
                          ·left;injection h4 with h4;exact h4.symm
                          ·exact .inr h4)
end
mutual
def atsC:Cm→List Int
 | .mk _ _ _ _ _ b e u p=>p::(atsL b++atsL e++atsU u)
def atsR:Ru→List Int
 | .mk _ _ _ _ b p=>p::atsL b
def atsL:List Cm→List Int
 | []=>[]
 | c::cs=>atsC c++atsL cs
def atsU:List Ru→List Int
 | []=>[]
 | r::rs=>atsR r++atsU rs
end
theorem y9c (c:Cm):atsC c=c.pl::(atsL c.body++atsL c.els++atsU c.rules):=by cases c;rw[atsC];rfl
theorem y3o (r:Ru):atsR r=r.pl::atsL r.body:=by cases r;rw[atsR];rfl
theorem y0d:∀ a b:List Cm,atsL (a++b)=atsL a++atsL b
 | [],b=>by rw[List.nil_append,atsL,List.nil_append]
 | x::a,b=>by rw[List.cons_append,atsL,atsL,y0d a b,List.append_assoc]
theorem y0i:∀ a b:List Ru,atsU (a++b)=atsU a++atsU b
 | [],b=>by rw[List.nil_append,atsU,List.nil_append]
 | x::a,b=>by rw[List.cons_append,atsU,atsU,y0i a b,List.append_assoc]
theorem y7z {l:List Cm} {k:Nat} {x:Cm} (h:l[k]?=some x):atsL (l.take (k+1))=atsL (l.take k)++atsC x:=by
 obtain⟨hk,e⟩:=List.getElem?_eq_some_iff.1 h;rw[List.take_succ_eq_append_getElem hk,e,y0d,atsL,atsL,List.append_nil]
theorem y1d {l:List Ru} {k:Nat} {x:Ru} (h:l[k]?=some x):atsU (l.take (k+1))=atsU (l.take k)++atsR x:=by
 obtain⟨hk,e⟩:=List.getElem?_eq_some_iff.1 h;rw[List.take_succ_eq_append_getElem hk,e,y0i,atsU,atsU,List.append_nil]
theorem y91 (l:List Cm) (k:Nat):(atsL (l.take k)).length≤(atsL l).length:=by
 have h:=congrArg List.length (y0d (l.take k) (l.drop k));rw[List.take_append_drop,List.length_append] at h;omega
theorem y1y (l:List Ru) (k:Nat):(atsU (l.take k)).length≤(atsU l).length:=by
 have h:=congrArg List.length (y0i (l.take k) (l.drop k));rw[List.take_append_drop,List.length_append] at h;omega
theorem z6q:∀ l:List Cm,l.length≤(atsL l).length
 | []=>Nat.zero_le _
 | x::l=>by have:=z6q l;rw[atsL,y9c,List.length_append,List.length_cons,List.length_cons];omega
theorem y0p:∀ l:List Ru,l.length≤(atsU l).length
 | []=>Nat.zero_le _
 | x::l=>by have:=y0p l;rw[atsU,y3o,List.length_append,List.length_cons,List.length_cons];omega
def iV (z:Int):Value:= .int .i64 z
def RdI (w:World) (A:OA) (zs:List Int):Prop:=zs=[]∨∃ ad,A=some ad∧ad.block<w.heap.size∧LieL w ad (zs.map iV)
theorem RdI.next {w w':World} {A:OA} {zs:List Int} (h:RdI w A zs) (hb:Below w.heap.size w w'):RdI w' A zs:=by
 rcases h with h | ⟨ad,e,hl,hc⟩
 ·exact .inl h
 ·exact .inr ⟨ad,e,Nat.lt_of_lt_of_le hl hb.size,fun j u hu=>(hb.cell (by rw[z0p];exact hl)).trans (hc j u hu)⟩
theorem RdI.news {w:World} {A:OA} {zs:List Int} (h:RdI w A zs):zs.length=0∨∃ ad,A=some ad∧∀ j u,(zs.map iV)[j]?=some u→w.cell? (ad.add j)=some u:=by
 rcases h with rfl | ⟨ad,e,_,hc⟩
 ·exact .inl rfl
 ·exact .inr ⟨ad,e,hc⟩
theorem y1g (zs:List Int):∀ u∈zs.map iV,u.oneCell'=true:=by
 intro u hu;obtain⟨z,_,rfl⟩:=List.mem_map.1 hu
 rfl
structure AtI (w wr:World) (v:Value) (n:Nat) (zs:List Int):Prop where
 low:Below w.heap.size w wr
 row:wr.ownsRow w.heap.size 3 1 v n (zs.map iV)
 len:zs.length=n
theorem AtI.beyond {w wr w':World} {v:Value} {n:Nat} {zs:List Int} (h:AtI w wr v n zs) (hb:Below wr.heap.size wr w'):AtI w w' v n zs:=⟨h.low.trans (hb.mono h.low.size),z25 h.row hb,h.len⟩
theorem AtI.push {w wr w2:World} {v:Value} {n:Nat} {zs ys:List Int} (h:AtI w wr v n zs) {g cap m:Nat} (hm:ys.length=m) (ho:w2.ownsRow w.heap.size 3 1 (.slice (some ⟨g,0,none⟩) (n+m) cap) (n+m) (zs.map iV++ys.map iV)) (hg:wr.grownBy w2 v.ownBlock):AtI w w2 (.slice (some ⟨g,0,none⟩) (n+m) cap) (n+m) (zs++ys):=by
 refine⟨h.low.trans ⟨hg.os,hg.tape,hg.output,hg.size,fun k hk=>hg.block k (Nat.lt_of_lt_of_le hk h.low.size) fun e=>?_⟩,?_,by rw[List.length_append,h.len,hm]⟩
 ·have:=(h.row.lt k e.symm).1
  omega
 ·rw[List.map_append];exact ho
theorem AtI.done {w wr:World} {v:Value} {n:Nat} {zs:List Int} (h:AtI w wr v n zs):∃ A c,v= .slice A zs.length c∧RdI wr A zs:=by
 rcases h.row.2 with ⟨rfl,h0⟩ | ⟨g,cap,cur,rfl,hb,hg,_⟩
 ·have:zs=[]:=List.eq_nil_of_length_eq_zero (by rw[h.len,h0])
  subst this;exact⟨none,0,rfl,.inl rfl⟩
 ·refine⟨some ⟨g,0,none⟩,cap,by rw[h.len],.inr ⟨⟨g,0,none⟩,rfl,(Array.getElem?_eq_some_iff.1 hg).1,fun j u hu=>?_⟩⟩
  exact h.row.cells (g:=g) rfl _ _ hu
theorem infoI:(Tryz.prog.info? 3).map (fun i=>(i.zero,i.size,i.bytes))=some (some (.int .i64 0),1,8):=by kernel_rfl
end
def AtP (ks:List Cm):Prop:=∀ (A:OA) (c:Nat) (w:World),RowC (LtX w.heap.size) w A ks→(atsL ks).length≤1000000→
 Cz 9 #[.slice A ks.length c] w fun e w'=>∃ A' c',e= .returned (.slice A' (atsL ks).length c')∧RdI w' A' (atsL ks)∧Below w.heap.size w w'
def AtK (c:Cm):Prop:=AtP c.body∧AtP c.els∧∀ r∈c.rules,AtP r.body
theorem z6m (ks:List Cm) (ih:∀ x∈ks,AtK x):AtP ks:=by
 intro A c w hk hl;obtain⟨m,hm⟩:∃ m,m=ks.length:=⟨_,rfl⟩;have hmG:m≤1000000:=by have:=z6q ks;omega
 have HG:=zz hl;rw[←hm];have HM:=zz hm;have HK:=zz hk;have HI:=zz ih;obtain⟨i0,hi0,hz0,hz1,hz2⟩:=info_parts infoI;clear hm hk ih hl;go_enter Tryz.func9,Tryz.ntmps9;go_wp2
 go_loopw [3,4] (fun v i wr=>∃ (j n:Nat) (zs:List Int),j≤m∧i= .int .i64 j∧Hid (AtI w wr v n zs)∧Hid (zs=atsL (ks.take j))) (fun _ i _=>m - (intOf i).toNat)
 case atStart=>exact⟨0,0,[],by omega,rfl,zz ⟨Below.refl _ _,World.ownsRow_nil _ _ _ _,rfl⟩,zz (by rw[List.take_zero,atsL])⟩
 case round=>
  obtain⟨j,n,zs,hj,rfl,HA,HZ⟩:=hrel;by_cases a:j<m
  ·obtain⟨r,hr⟩:=z0t HM.out a
   obtain⟨ad,lk,rfl,hp,h9,hkr⟩:=z4p HK.out bR hr;obtain⟨lp,lcp,lx,lcx,lb,lcb,le,lce,lu,lcu⟩:=lk;have hQ:=HI.out r (List.mem_of_getElem? hr);have htk:=y7z hr;have hpt:=y91 ks (j+1);rw[y9c] at htk;have hK:=z0u.1 hkr;have hlen:=congrArg List.length htk;simp only[List.length_append,List.length_cons] at hlen;have hg:=HG.out;have hzl:=HZ.out;have hnl:=HA.out.len;have HBD:Hid (n+1+(atsL r.body).length+(atsL r.els).length+(atsU r.rules).length≤1000000):=zz (by rw[←hzl] at hlen;omega);have hl1:(atsL r.body).length≤1000000:=by have:=HBD.out;omega
   have hl2:(atsL r.els).length≤1000000:=by have:=HBD.out;omega
   have KB:Hid (∀ w',Below w.heap.size w w'→Cz 9 #[.slice lb r.body.length lcb] w' fun e w2=>∃ A' c',e= .returned (.slice A' (atsL r.body).length c')∧RdI w2 A' (atsL r.body)∧Below w'.heap.size w' w2):=zz fun w' hw=>hQ.1 _ _ w' (hK.2.2.1.next hw) hl1
   have KE:Hid (∀ w',Below w.heap.size w w'→Cz 9 #[.slice le r.els.length lce] w' fun e w2=>∃ A' c',e= .returned (.slice A' (atsL r.els).length c')∧RdI w2 A' (atsL r.els)∧Below w'.heap.size w' w2):=zz fun w' hw=>hQ.2.1 _ _ w' (hK.2.2.2.1.next hw) hl2
   have KU:Hid (∀ (i:Nat) (u:Ru) (B:OA) (k:Nat) w',r.rules[i]?=some u→Below w.heap.size w w'→KidR (LtX w.heap.size) w B u→Cz 9 #[.slice B u.body.length k] w' fun e w2=>∃ A' c',e= .returned (.slice A' (atsL u.body).length c')∧RdI w2 A' (atsL u.body)∧Below w'.heap.size w' w2):=zz fun i u B k w' h1 hw hz=>by
    have e1:=congrArg List.length (y1d h1);have e2:=y1y r.rules (i+1);rw[y3o,List.length_append,List.length_cons] at e1;exact hQ.2.2 u (List.mem_of_getElem? h1) _ _ w' ((z2j.1 hz).next hw) (by have:=HBD.out;omega)
   have HU:Hid (RowU (LtX w.heap.size) w lu r.rules):=zz hK.2.2.2.2;have hlr:r.rules.length≤1000000:=by have:=y0p r.rules;have:=HBD.out;omega
   have HL:Hid (∀ W,Below w.heap.size w W→W.cell? ⟨(ad.add (j * 13)).block,(ad.add (j * 13)).off+12,none⟩=some (.int .i64 r.pl)∧W.cell? ⟨(ad.add (j * 13)).block,(ad.add (j * 13)).off+9,none⟩=some (.slice lb r.body.length lcb)∧W.cell? ⟨(ad.add (j * 13)).block,(ad.add (j * 13)).off+10,none⟩=some (.slice le r.els.length lce)∧W.cell? ⟨(ad.add (j * 13)).block,(ad.add (j * 13)).off+11,none⟩=some (.slice lu r.rules.length lcu)):=zz fun W hb=>by
    obtain⟨_,_,_,_,_,_,_,_,_,c9,c10,c11,c12⟩:=LieL.at13 h9;have hlt:∀ o,(⟨(ad.add (j * 13)).block,o,none⟩:Addr).block<w.heap.size:=fun o=>by show (ad.add (j * 13)).block<_;rw[z0p];exact hp
    exact⟨(hb.cell (hlt _)).trans c12,(hb.cell (hlt _)).trans c9,(hb.cell (hlt _)).trans c10,(hb.cell (hlt _)).trans c11⟩
   have HTK:Hid (atsL (ks.take (j+1))=((zs++[r.pl])++atsL r.body++atsL r.els)++atsU r.rules):=zz (by rw[htk,←hzl];simp);obtain⟨nu,hnu⟩:∃ x,x=r.rules.length:=⟨_,rfl⟩;have HNU:=zz hnu;rw[←hnu] at HL hlr;obtain⟨f12,f9,f10,f11⟩:=HL.out _ HA.out.low;have hbt:=World.block_lt_of_cell? wr _ f12;have HA1:=zz (HA.out.beyond (z0b wr (.cells #[r.pl] 3)));clear hr hQ htk hpt hkr hK hlen hg hzl hnl hl1 hl2 h9 hp hnu HI
   go_wp2_with (first
    | (at_builtin;refine wpList_append_lies _ rfl (.tmp 12) (.tmp 18) 30 rfl w.heap.size 3 i0 (.int .i64 0) 1 8 Tryz.underlying30 hi0 hz0 hz1 hz2 rfl (by decide) _ n (zs.map iV) rfl HA1.out.row ⟨wr.heap.size,0,none⟩ 1 1 [r.pl] rfl rfl (fun j u hu=>z0k wr 3 #[r.pl] j u hu) (y1g [r.pl]) (by decide) (by have:=HBD.out;unfold maxLen;omega) (by have:=HBD.out;omega) HA1.out.low.size (wr.heap.size+1) (by simp) ?_;intro g1 p1 w5 ho hg _ _;have HN1:=zz (AtI.push (ys:=[r.pl]) (m:=1) HA1.out rfl ho hg);clear ho hg f12 f9 f10 f11;obtain⟨f12,f9,f10,f11⟩:=HL.out _ HN1.out.low;have hbt2:=World.block_lt_of_cell? _ _ f12)
    | (go_at_call 9;((with_reducible refine(KB.out _ HN1.out.low).mono ?_);rintro e w6 ⟨A6,c6,rfl,hr6,hb6⟩;have HN2:=zz (HN1.out.beyond hb6);have HR6:=zz hr6;clear hr6 hb6 KB))
    | (at_builtin;refine z12 rfl (.tmp 20) (.tmp 26) 30 rfl w.heap.size 3 i0 (.int .i64 0) 1 8 Tryz.underlying30 hi0 hz0 hz1 hz2 rfl (by decide) g1 (n+1) p1 ((zs++[r.pl]).map iV) rfl HN2.out.row A6 (atsL r.body).length c6 ((atsL r.body).map iV) rfl (by rw[List.length_map,Nat.mul_one]) HR6.out.news (y1g (atsL r.body)) (by have:=HBD.out;unfold maxLen;omega) (by have:=HBD.out;omega) HN2.out.low.size ?_;intro g2 p2 w7 ho hg _;have HN3:=zz (AtI.push (ys:=(atsL r.body)) HN2.out rfl ho hg);clear ho hg HR6 HN2;obtain⟨f12,f9,f10,f11⟩:=HL.out _ HN3.out.low;have hbt3:=World.block_lt_of_cell? _ _ f12)
    | (go_at_call 9;((with_reducible refine(KE.out _ HN3.out.low).mono ?_);rintro e w8 ⟨A8,c8,rfl,hr8,hb8⟩;have HN4:=zz (HN3.out.beyond hb8);have HR8:=zz hr8;clear hr8 hb8))
    | (at_builtin;refine z12 rfl (.tmp 28) (.tmp 34) 30 rfl w.heap.size 3 i0 (.int .i64 0) 1 8 Tryz.underlying30 hi0 hz0 hz1 hz2 rfl (by decide) g2 (n+1+(atsL r.body).length) p2 ((zs++[r.pl]++atsL r.body).map iV) rfl HN4.out.row A8 (atsL r.els).length c8 ((atsL r.els).map iV) rfl (by rw[List.length_map,Nat.mul_one]) HR8.out.news (y1g (atsL r.els)) (by have:=HBD.out;unfold maxLen;omega) (by have:=HBD.out;omega) HN4.out.low.size ?_;intro g3 p3 w9 ho hg _;have HN5:=zz (AtI.push (ys:=(atsL r.els)) HN4.out rfl ho hg);clear ho hg))
   obtain⟨n5,hn5⟩:∃ x,x=n+1+(atsL r.body).length+(atsL r.els).length:=⟨_,rfl⟩;obtain⟨Z5,hZ5⟩:∃ x,x=zs++[r.pl]++atsL r.body++atsL r.els:=⟨_,rfl⟩;rw[←hn5,←hZ5] at HN5;rw[←hn5] at HBD ⊢;rw[←hZ5] at HTK;clear hn5 hZ5 f12 f9 f10 f11 hbt hbt2 hbt3 HA HA1 HN1 HN3 KE
   go_loopw [3,5] (fun v i wr2=>∃ (q n6 g6 p6:Nat) (z6:List Int),q≤nu∧i= .int .i64 q∧v= .slice (some ⟨g6,0,none⟩) n6 p6∧Hid (AtI w wr2 v n6 z6)∧Hid (z6=Z5++atsU (r.rules.take q))∧Hid (n6+(atsU r.rules).length=n5+(atsU r.rules).length+(atsU (r.rules.take q)).length)) (fun _ i _=>nu - (intOf i).toNat)
   case atStart=>exact⟨0,n5,g3,p3,Z5,by omega,rfl,rfl,HN5,zz (by rw[List.take_zero,atsU,List.append_nil]),zz (by rw[List.take_zero,atsU];rfl)⟩
   case round=>
    obtain⟨q,n6,g6,p6,z6,hq,rfl,rfl,HB,HY,HN6⟩:=hrel;obtain⟨_,_,_,f11⟩:=HL.out _ HB.out.low;have hbt4:=World.block_lt_of_cell? _ _ f11;by_cases a3:q<nu
    ·obtain⟨ru,hru⟩:=z0t HNU.out a3
     obtain⟨ad4,B,k4,rfl,hp4,h5,hk4⟩:=z4l HU.out bR hru;have htk3:=y1d hru;rw[y3o] at htk3;have hpt:=y1y r.rules (q+1);have hlen:=congrArg List.length htk3;rw[List.length_append,List.length_cons] at hlen;have HBD2:Hid (n6+1+(atsL ru.body).length≤1000000):=zz (by have:=HBD.out;have:=HN6.out;omega);have KR:Hid (∀ w',Below w.heap.size w w'→Cz 9 #[.slice B ru.body.length k4] w' fun e w2=>∃ A' c',e= .returned (.slice A' (atsL ru.body).length c')∧RdI w2 A' (atsL ru.body)∧Below w'.heap.size w' w2):=zz fun w' hw=>KU.out q ru B k4 w' hru hw hk4
     have HL4:Hid (∀ W,Below w.heap.size w W→W.cell? ⟨(ad4.add (q * 6)).block,(ad4.add (q * 6)).off+5,none⟩=some (.int .i64 ru.pl)∧W.cell? ⟨(ad4.add (q * 6)).block,(ad4.add (q * 6)).off+4,none⟩=some (.slice B ru.body.length k4)):=zz fun W hb=>by
      obtain⟨_,_,_,_,c4,c5⟩:=LieL.at6 h5;have hlt:∀ o,(⟨(ad4.add (q * 6)).block,o,none⟩:Addr).block<w.heap.size:=fun o=>by show (ad4.add (q * 6)).block<_;rw[z0p];exact hp4
      exact⟨(hb.cell (hlt _)).trans c5,(hb.cell (hlt _)).trans c4⟩
     have HY2:Hid (z6++[ru.pl]++atsL ru.body=Z5++atsU (r.rules.take (q+1))):=zz (by rw[htk3,HY.out];simp);have HN7:Hid (n6+1+(atsL ru.body).length+(atsU r.rules).length=n5+(atsU r.rules).length+(atsU (r.rules.take (q+1))).length):=zz (by have:=HN6.out;omega);obtain⟨e5,e4⟩:=HL4.out _ HB.out.low;have hbt5:=World.block_lt_of_cell? _ _ e5;have HB1:=zz (HB.out.beyond (z0b wr (.cells #[ru.pl] 3)));clear HBD hru hp4 h5 hk4 htk3 hpt hlen;have HBD:=HBD2;clear HBD2
     go_wp2_with (first
      | (at_builtin;refine wpList_append_lies _ rfl (.tmp 46) (.tmp 56) 30 rfl w.heap.size 3 i0 (.int .i64 0) 1 8 Tryz.underlying30 hi0 hz0 hz1 hz2 rfl (by decide) _ n6 (z6.map iV) rfl HB1.out.row ⟨wr.heap.size,0,none⟩ 1 1 [ru.pl] rfl rfl (fun j u hu=>z0k wr 3 #[ru.pl] j u hu) (y1g [ru.pl]) (by decide) (by have:=HBD.out;unfold maxLen;omega) (by have:=HBD.out;omega) HB1.out.low.size (wr.heap.size+1) (by simp) ?_;intro g7 p7 w5 ho hg _ _;have HN8:=zz (AtI.push (ys:=[ru.pl]) (m:=1) HB1.out rfl ho hg);clear ho hg e5 e4 f11;obtain⟨e5,e4⟩:=HL4.out _ HN8.out.low;obtain⟨_,_,_,f11⟩:=HL.out _ HN8.out.low;have hbt6:=World.block_lt_of_cell? _ _ e5;have hbt7:=World.block_lt_of_cell? _ _ f11)
      | (go_at_call 9;go_must ((with_reducible refine(KR.out _ HN8.out.low).mono ?_);rintro e w6 ⟨A6,c6,rfl,hr6,hb6⟩;have HN9:=zz (HN8.out.beyond hb6);have HR6:=zz hr6;clear hr6 hb6))
      | (at_builtin;refine z12 rfl (.tmp 58) (.tmp 68) 30 rfl w.heap.size 3 i0 (.int .i64 0) 1 8 Tryz.underlying30 hi0 hz0 hz1 hz2 rfl (by decide) g7 (n6+1) p7 ((z6++[ru.pl]).map iV) rfl HN9.out.row A6 (atsL ru.body).length c6 ((atsL ru.body).map iV) rfl (by rw[List.length_map,Nat.mul_one]) HR6.out.news (y1g (atsL ru.body)) (by have:=HBD.out;unfold maxLen;omega) (by have:=HBD.out;omega) HN9.out.low.size ?_;intro g8 p8 w7 ho hg _;have HN10:=zz (AtI.push (ys:=(atsL ru.body)) HN9.out rfl ho hg);clear ho hg))
     go_roundw
     case rel=>exact⟨q+1,n6+1+(atsL ru.body).length,g8,p8,z6++[ru.pl]++atsL ru.body,by omega,by go_num,rfl,HN10,HY2,HN7⟩
     case measure=>simp[intOf];omega
    ·have HZ2:Hid (z6=atsL (ks.take (j+1))):=zz (by rw[HY.out,HTK.out,List.take_of_length_le (by have:=HNU.out;omega)])
     go_wp2
     go_roundw
     case rel=>exact⟨j+1,n6,z6,by omega,by go_num,HB,HZ2⟩
     case measure=>simp[intOf];omega
  ·have HZ2:Hid (zs=atsL ks):=zz (by rw[HZ.out,List.take_of_length_le (by have:=HM.out;omega)])
   go_wp2;go_ret;obtain⟨A',c',rfl,hr⟩:=HA.out.done;rw[←HZ2.out];exact⟨A',c',rfl,hr,HA.out.low⟩
theorem x3m:(∀ c,AtK c)∧∀ r:Ru,AtP r.body:=Cm.ind2 (P:=AtK) (Q:=fun r=>AtP r.body) (fun _ _ _ _ _ b e _ _ hb he hu=>⟨z6m b hb,z6m e he,hu⟩) (fun _ _ _ _ b _ hb=>z6m b hb)
theorem x2k (b:List Cm):AtP b:=z6m b fun x _=>x3m.1 x
section
section
variable {l:List Tok}
theorem y44 {k:Nat} (h:(nxz l k).kind≠0):nxz l k∈l:=by
 have hk:=z17 h;rw[z11 (List.getElem?_eq_getElem hk)];exact List.getElem_mem hk
theorem z5f (hf:FitL l) {k:Nat} {s:Bs} {j:Nat} (h:nameF l k= .ok s j):j=k+1∧okNm s:=by
 unfold nameF at h
 split at h
 ·rename_i c
  injection h with h1 h2
  subst h1 h2;have hm:=y44 (l:=l) (k:=k) (by rw[c.1];decide);have ho:=hf.ok _ hm;have hw:=(hf.fit _ hm).word;unfold okT at ho;rw[if_neg (by rw[c.1];decide),if_neg (by rw[c.1];decide)] at ho;unfold mayW at ho;rw[if_pos c.1] at ho;refine⟨rfl,c.2,by omega,fun x t e=>?_⟩;rw[e] at ho;unfold isWordL isLow at ho;simp at ho;omega
 ·cases h
theorem y85 (hf:FitL l) {k:Nat} {t:Tok} {j:Nat} (h:kindF l 2 k= .ok t j):j=k+1∧0≤t.n∧t.n≤9223372036854775807:=by
 unfold kindF at h
 split at h
 ·rename_i c
  injection h with h1 h2
  subst h1 h2;have hm:=y44 (l:=l) (k:=k) (by rw[c];decide);have ho:=hf.ok _ hm;unfold okT at ho;rw[if_pos c] at ho;simp at ho;exact⟨rfl,ho.1.2,(hf.fit _ hm).n.2⟩
 ·cases h
def FitPs (ps:List Pt):Prop:=ps.length≤100000∧∀ q∈ps,q.1.length≤100000∧q.2.length≤100000
theorem x0g (hf:FitL l) {k:Nat} {ps:List Pt} {j:Nat} (h:textF l k= .ok ps j):j=k+1∧okTx ps∧FitPs ps:=by
 obtain⟨t,i,h1,h2⟩:=Rz.then_ok h;injection h2 with h2 h3
 subst h2 h3;unfold kindF at h1
 split at h1
 ·rename_i c
  injection h1 with h1 h2
  subst h1 h2;have hm:=y44 (l:=l) (k:=k) (by rw[c];decide);have ho:=hf.ok _ hm;have hft:=hf.fit _ hm;unfold okT at ho;rw[if_neg (by rw[c];decide),if_pos c] at ho;simp at ho;exact⟨rfl,⟨ho.2,Nat.le_trans hft.parts (by decide),fun p hp=>Nat.le_trans (hft.names p hp) (by decide)⟩,hft.parts,fun q hq=>⟨hft.names q hq,hft.texts q hq⟩⟩
 ·cases h1
theorem z93 (hf:FitL l) {z:Int} {k:Nat} {y:Int} {j:Nat} (h:numF l z k= .ok y j):k+1≤j∧ -9223372036854775807≤y∧(z≠3→ -1≤y)∧(z≠3→z≠11→0≤y):=by
 unfold numF at h
 split at h
 ·rename_i c
  obtain⟨t,i,h1,h2⟩:=Rz.then_ok h;injection h2 with h2 h3
  have:=y85 hf h1;exact⟨by omega,by omega,fun e=>absurd c.1 e,fun e=>absurd c.1 e⟩
 ·split at h
  ·rename_i c
   injection h with h1 h2
   exact⟨by omega,by omega,fun _=>by omega,fun _ e=>absurd c.1 e⟩
  ·obtain⟨t,i,h1,h2⟩:=Rz.then_ok h
   injection h2 with h2 h3
   have:=y85 hf h1;exact⟨by omega,by omega,fun _=>by omega,fun _ _=>by omega⟩
theorem y4a {kd:Int} {w:Bs} {k:Nat} {u:Unit} {j:Nat} (h:needF l kd w k= .ok u j):j=k+1:=by
 unfold needF at h
 split at h
 ·injection h with _ h;exact h.symm
 ·cases h
theorem y0s (hf:FitL l) (hn:l.length≤4000) {k:Nat} (hk:k≤l.length) {x:Ex} {j:Nat} (h:condF l k= .ok x j):k+1≤j∧okCo x:=by
 unfold condF at h;obtain⟨u,i,h1,h⟩:=Rz.then_ok h;have e1:=y4a h1;have hin:=z0r (z36 (l:=l) (kd:=4) (w:=[40]) (by decide) hk) h1;obtain⟨y,m,h2,h⟩:=Rz.then_ok h;obtain⟨u2,m2,h3,h⟩:=Rz.then_ok h;have e3:=y4a h3
 split at h
 ·rename_i hm
  injection h with h4 h5
  subst h4 h5
  cases hr:exR l i with
  | bad q e=>rw[hr] at h2;cases h2
  | ok y2 q=>
    rw[hr] at h2;injection h2 with h4 h5
    subst h4 h5;have hs:=z3j hin.2;rw[hr] at hs;have a:=RdE.small (fun t ht=>z68 (hf.ok t ht)) (Nat.le_refl 1) hin.2 hs;have b:=hs.within (Nat.le_refl 1) hin.2;exact⟨by have:=b.1;omega,hm,by omega,by omega⟩
 ·cases h
def GdL (d:Int) (xs:List Cm) (m:Nat):Prop:=(∀ x∈xs,MyC d x∧FitC x)∧(atsL xs).length≤m
def GdU (d:Int) (us:List Ru) (m:Nat):Prop:=(∀ r∈us,MyR d r∧FitR r)∧(atsU us).length≤m
def BlkOk (l:List Tok) (blk:Nat→Nat→Rz (List Cm)):Prop:=∀ d k xs j,d≤16→k≤l.length→blk d k= .ok xs j→k≤j∧j≤l.length∧d<16∧GdL ((d:Int)+1) xs (j - k)
theorem fitN0:sizeX exNone≤1000000∧nmX exNone≤1000000:=by decide
variable (hn:l.length≤250)
include hn
theorem z7m {d:Int} {xs:List Cm} {k j:Nat} (h:GdL d xs (j - k)) (hj:j≤l.length):xs.length≤1000000:=by have:=z6q xs;have:=h.2;omega
omit hn in
theorem x2f {told:Bool} {q:Int} (hq: -1≤q) (ht:told=false→q= -1) (hf:FitL l) {k:Nat} {p:Int × Int × Bs} {j:Nat} (h:headF l told k= .ok p j):okRu p.1 q p.2.1 p.2.2∧p.2.2.length≤1000000:=by
 have e:∀ {z:Int} {p:Int × Int × Bs} {j:Nat},(z=0∨z=1∨z=2)→((plainF l (k+1)).then fun s m=> .ok (1,z,s) m)= .ok p j→okRu p.1 q p.2.1 p.2.2∧p.2.2.length≤1000000:=fun {z p j} hz h=>by
  obtain⟨s,i,h1,h2⟩:=Rz.then_ok h;injection h2 with h2 _
  subst h2;refine⟨.inl ⟨rfl,hq,hz⟩,?_⟩;unfold plainF at h1
  split at h1
  ·rename_i c
   have hft:=hf.fit _ (y44 (l:=l) (k:=k+1) (by rw[c];decide))
   split at h1
   ·rename_i s' hp
    injection h1 with h1 _
    subst h1;unfold plainP at hp
    split at hp
    ·injection hp with hp;subst hp;exact Nat.zero_le _
    ·rename_i p' hpp
     split at hp
     ·injection hp with hp
      subst hp;exact Nat.le_trans (hft.texts p' (by rw[hpp];simp)) (by decide)
     ·cases hp
    ·cases hp
   ·cases h1
  ·cases h1
 rcases z5p l told k with ⟨jf,hjf,_,hh⟩ | ⟨_,hh⟩
 ·rw[hh] at h;exact e (z:=(jf:Int)) (by omega) h
 ·rcases hh with ⟨_,hh⟩ | ⟨_,_,_,hh⟩ | ⟨_,_,_,hh⟩ | ⟨_,_,_,hh⟩
  ·rw[hh] at h
   injection h with h _
   subst h;exact⟨.inr (.inl ⟨rfl,hq,rfl,rfl⟩),Nat.zero_le _⟩
  ·rw[hh] at h
   cases told with
   | true=>cases h
   | false=>
     injection h with h _
     subst h;exact⟨.inr (.inr ⟨.inl rfl,ht rfl,rfl,rfl⟩),Nat.zero_le _⟩
  ·rw[hh] at h
   cases told with
   | true=>cases h
   | false=>
     injection h with h _
     subst h;exact⟨.inr (.inr ⟨.inr rfl,ht rfl,rfl,rfl⟩),Nat.zero_le _⟩
  ·rw[hh] at h;cases h
theorem y9g (hf:FitL l) {blk:Nat→Nat→Rz (List Cm)} (hb:BlkOk l blk) {d k:Nat} (hd:d≤16) (hk:k≤l.length) {r:Ru} {j:Nat} (h:ruleF l blk d k= .ok r j):k+1≤j∧j≤l.length∧(MyR d r∧FitR r)∧(atsR r).length≤j - k:=by
 obtain⟨q,i,h1,h⟩:=Rz.then_ok h;obtain⟨p,m,h2,h⟩:=Rz.then_ok h;obtain⟨bd,j2,h3,h⟩:=Rz.then_ok h;injection h with h4 h5
 subst h4 h5;have a1:=z0r (y0c hk) h1;have a2:=z0r (z91 a1.2) h2;have a3:=z82 h2;have a4:=hb d m bd j2 hd a2.2 h3
 have hq: -1≤q∧(isT l 5 [105] k=false→q= -1):=by
  unfold peerF at h1
  split at h1
  ·rename_i c
   obtain⟨t,z,h4,h5⟩:=Rz.then_ok h1;injection h5 with h5 _
   have:=y85 hf h4;exact⟨by omega,fun e=>by rw[c] at e;cases e⟩
  ·injection h1 with h1 _
   exact⟨by omega,fun _=>h1.symm⟩
 have a5:=x2f hq.1 hq.2 hf h2;have hl:=z7m hn a4.2.2.2 a4.2.1;refine⟨by omega,a4.2.1,⟨.mk a5.1 (by omega) hl fun c hc=>(a4.2.2.2.1 c hc).1,.mk a5.2 hl fun c hc=>(a4.2.2.2.1 c hc).2⟩,?_⟩;rw[atsR,List.length_cons];have:=a4.2.2.2.2;omega
theorem z8v (hf:FitL l) {blk:Nat→Nat→Rz (List Cm)} (hb:BlkOk l blk) {d:Nat} (hd:d≤16):∀ (N k:Nat) (us:List Ru) (j:Nat),k≤l.length→rulesL l blk d N k= .ok us j→k+1≤j∧j≤l.length∧us≠[]∧GdU d us (j - k)
 | 0,k,us,j,hk,h=>by cases h
 | N+1,k,us,j,hk,h=>by
   rw[rulesL] at h;obtain⟨r,i,h1,h⟩:=Rz.then_ok h;have a:=y9g hn hf hb hd hk h1
   split at h
   ·rename_i c
    have hlt:=z1q c (by decide);injection h with h2 h3
    subst h2 h3;refine⟨by omega,by omega,by simp,fun x hx=>by rw[List.mem_singleton.1 hx];exact a.2.2.1,?_⟩;rw[atsU,atsU,List.append_nil];have:=a.2.2.2;omega
   ·obtain⟨rs,m,h2,h⟩:=Rz.then_ok h
    injection h with h3 h4
    subst h3 h4;have b:=z8v hf hb hd N i rs m a.2.1 h2;refine⟨by omega,b.2.1,by simp,fun x hx=>?_,?_⟩
    ·rcases List.mem_cons.1 hx with rfl | hx
     ·exact a.2.2.1
     ·exact b.2.2.2.1 x hx
    ·rw[atsU,List.length_append]
     have:=a.2.2.2;have:=b.2.2.2.2;omega
theorem z5o (hf:FitL l) {blk:Nat→Nat→Rz (List Cm)} (hb:BlkOk l blk) {d k:Nat} (hd:d≤16) (hk:k≤l.length) {us:List Ru} {j:Nat} (h:rulesF l blk d k= .ok us j):k+1≤j∧j≤l.length∧us≠[]∧d<16∧GdU ((d:Int)+1) us (j - k)∧us.length≤1000000:=by
 obtain⟨u,i,h1,h⟩:=Rz.then_ok h;have a1:=z0r (z5k hk) h1;have a2:=z3c h1;have b:=z8v hn hf hb (d:=d+1) (by omega) _ i us j a1.2 h;have:=b.2.2.2.2;have hl:=y0p us;exact⟨by omega,b.2.1,b.2.2.1,by omega,⟨b.2.2.2.1,by omega⟩,by omega⟩
theorem x2d (hf:FitL l) {blk:Nat→Nat→Rz (List Cm)} (hb:BlkOk l blk) {d k:Nat} (hd:d≤16) (hk:k<l.length) {c:Cm} {j:Nat} (h:cmdF l blk d k= .ok c j):k+1≤j∧j≤l.length∧(MyC d c∧FitC c)∧(atsC c).length≤j - k:=by
 have hk1:k+1≤l.length:=hk;have f0:=fitN0;have nil:∀ {P:Cm→Prop},∀ x∈([]:List Cm),P x:=fun x h=>by cases h
 have nilU:∀ {P:Ru→Prop},∀ x∈([]:List Ru),P x:=fun x h=>by cases h
 have nilP:∀ q∈([]:List Pt),q.1.length≤100000∧q.2.length≤100000:=fun q h=>by cases h
 unfold cmdF at h;dsimp only at h
 split at h
 ·obtain⟨s,i,h1,h⟩:=Rz.then_ok h
  obtain⟨ps,m,h2,h⟩:=Rz.then_ok h;injection h with h3 h4
  subst h3 h4;have a1:=z5f hf h1;have w1:=z0r (z1u hk1) h1;have a2:=x0g hf h2;have w2:=z0r (z6r w1.2) h2;exact⟨by omega,w2.2,⟨.k1 a1.2 a2.2.1,.mk a1.2.2.1 a2.2.2.1 a2.2.2.2 f0.1 f0.2 (by simp) (by simp) (by simp) nil nil nilU⟩,by rw[atsC,atsL,atsU];simp;omega⟩
 ·obtain⟨s,i,h1,h⟩:=Rz.then_ok h
  obtain⟨x,m,h2,h⟩:=Rz.then_ok h;injection h with h3 h4
  subst h3 h4;have a1:=z5f hf h1;have w1:=z0r (z1u hk1) h1;have a2:=y0s hf (by omega) w1.2 h2;have w2:=z0r (z1z w1.2) h2;exact⟨by omega,w2.2,⟨.k2 a1.2 a2.2,.mk a1.2.2.1 (by simp) nilP a2.2.2.2 a2.2.2.1 (by simp) (by simp) (by simp) nil nil nilU⟩,by rw[atsC,atsL,atsU];simp;omega⟩
 ·obtain⟨s,i,h1,h⟩:=Rz.then_ok h
  obtain⟨z,m,h2,h⟩:=Rz.then_ok h;injection h with h3 h4
  subst h3 h4;have a1:=z5f hf h1;have w1:=z0r (z1u hk1) h1;have a2:=z93 hf h2;have w2:=z0r (z3s w1.2) h2;exact⟨by omega,w2.2,⟨.k3 a1.2 a2.2.1,.mk a1.2.2.1 (by simp) nilP f0.1 f0.2 (by simp) (by simp) (by simp) nil nil nilU⟩,by rw[atsC,atsL,atsU];simp;omega⟩
 ·obtain⟨x,i,h1,h⟩:=Rz.then_ok h
  have a1:=y0s hf (by omega) hk1 h1;have w1:=z0r (z1z hk1) h1;obtain⟨xs,m,h2,h⟩:=Rz.then_ok h;have a2:=hb d i xs m hd w1.2 h2;have l2:=z7m hn a2.2.2.2 a2.2.1;have g2:=a2.2.2.2.2
  split at h
  ·rename_i c
   have hlt:=z1q c (by decide);obtain⟨ys,m2,h3,h⟩:=Rz.then_ok h;have a3:=hb d (m+1) ys m2 hd (by omega) h3;have l3:=z7m hn a3.2.2.2 a3.2.1;have g3:=a3.2.2.2.2;injection h with h3 h4
   subst h3 h4;exact⟨by omega,a3.2.1,⟨.k4 a1.2 (by omega) l2 l3 (fun c hc=>(a2.2.2.2.1 c hc).1) (fun c hc=>(a3.2.2.2.1 c hc).1),.mk (by simp) (by simp) nilP a1.2.2.2 a1.2.2.1 l2 l3 (by simp) (fun c hc=>(a2.2.2.2.1 c hc).2) (fun c hc=>(a3.2.2.2.1 c hc).2) nilU⟩,by rw[atsC,atsU];simp;omega⟩
  ·injection h with h3 h4
   subst h3 h4;exact⟨by omega,a2.2.1,⟨.k4 a1.2 (by omega) l2 (by simp) (fun c hc=>(a2.2.2.2.1 c hc).1) nil,.mk (by simp) (by simp) nilP a1.2.2.2 a1.2.2.1 l2 (by simp) (by simp) (fun c hc=>(a2.2.2.2.1 c hc).2) nil nilU⟩,by rw[atsC,atsU,atsL];simp;omega⟩
 ·obtain⟨x,i,h1,h⟩:=Rz.then_ok h
  have a1:=y0s hf (by omega) hk1 h1;have w1:=z0r (z1z hk1) h1;obtain⟨xs,m,h2,h⟩:=Rz.then_ok h;have a2:=hb d i xs m hd w1.2 h2;have l2:=z7m hn a2.2.2.2 a2.2.1;have g2:=a2.2.2.2.2;injection h with h3 h4
  subst h3 h4;exact⟨by omega,a2.2.1,⟨.k5 a1.2 (by omega) l2 (fun c hc=>(a2.2.2.2.1 c hc).1),.mk (by simp) (by simp) nilP a1.2.2.2 a1.2.2.1 l2 (by simp) (by simp) (fun c hc=>(a2.2.2.2.1 c hc).2) nil nilU⟩,by rw[atsC,atsU,atsL];simp;omega⟩
 ·obtain⟨s,i,h1,h⟩:=Rz.then_ok h
  have a1:=z5f hf h1;have w1:=z0r (z1u hk1) h1;obtain⟨xs,m,h2,h⟩:=Rz.then_ok h;have a2:=hb d i xs m hd w1.2 h2;have l2:=z7m hn a2.2.2.2 a2.2.1;have g2:=a2.2.2.2.2;injection h with h3 h4
  subst h3 h4;exact⟨by omega,a2.2.1,⟨.k6 a1.2 (by omega) l2 (fun c hc=>(a2.2.2.2.1 c hc).1),.mk a1.2.2.1 (by simp) nilP f0.1 f0.2 l2 (by simp) (by simp) (fun c hc=>(a2.2.2.2.1 c hc).2) nil nilU⟩,by rw[atsC,atsU,atsL];simp;omega⟩
 ·obtain⟨s,i,h1,h⟩:=Rz.then_ok h
  have a1:=z5f hf h1;have w1:=z0r (z1u hk1) h1;injection h with h3 h4
  subst h3 h4;exact⟨by omega,w1.2,⟨.k7 a1.2,.mk a1.2.2.1 (by simp) nilP f0.1 f0.2 (by simp) (by simp) (by simp) nil nil nilU⟩,by rw[atsC,atsL,atsU];simp;omega⟩
 ·obtain⟨z,m,h2,h⟩:=Rz.then_ok h
  injection h with h3 h4
  subst h3 h4;have a2:=z93 hf h2;have w2:=z0r (z3s hk1) h2;exact⟨by omega,w2.2,⟨.k8 (a2.2.2.2 (by decide) (by decide)),.mk (by simp) (by simp) nilP f0.1 f0.2 (by simp) (by simp) (by simp) nil nil nilU⟩,by rw[atsC,atsL,atsU];simp;omega⟩
 ·obtain⟨z,m,h2,h⟩:=Rz.then_ok h
  injection h with h3 h4
  subst h3 h4;have a2:=z93 hf h2;have w2:=z0r (z3s hk1) h2;exact⟨by omega,w2.2,⟨.k9 (a2.2.2.2 (by decide) (by decide)),.mk (by simp) (by simp) nilP f0.1 f0.2 (by simp) (by simp) (by simp) nil nil nilU⟩,by rw[atsC,atsL,atsU];simp;omega⟩
 ·obtain⟨ps,m,h2,h⟩:=Rz.then_ok h
  injection h with h3 h4
  subst h3 h4;have a2:=x0g hf h2;have w2:=z0r (z6r hk1) h2;exact⟨by omega,w2.2,⟨.k10 a2.2.1,.mk (by simp) a2.2.2.1 a2.2.2.2 f0.1 f0.2 (by simp) (by simp) (by simp) nil nil nilU⟩,by rw[atsC,atsL,atsU];simp;omega⟩
 ·obtain⟨z,m,h2,h⟩:=Rz.then_ok h
  injection h with h3 h4
  subst h3 h4;have a2:=z93 hf h2;have w2:=z0r (z3s hk1) h2;exact⟨by omega,w2.2,⟨.k11 (a2.2.2.1 (by decide)),.mk (by simp) (by simp) nilP f0.1 f0.2 (by simp) (by simp) (by simp) nil nil nilU⟩,by rw[atsC,atsL,atsU];simp;omega⟩
 ·obtain⟨us,m,h2,h⟩:=Rz.then_ok h
  injection h with h3 h4
  subst h3 h4;have a2:=z5o hn hf hb hd hk1 h2;have g2:=a2.2.2.2.2.1.2;exact⟨by omega,a2.2.1,⟨.k12 a2.2.2.1 (by omega) a2.2.2.2.2.2 (fun r hr=>(a2.2.2.2.2.1.1 r hr).1),.mk (by simp) (by simp) nilP f0.1 f0.2 (by simp) (by simp) a2.2.2.2.2.2 nil nil (fun r hr=>(a2.2.2.2.2.1.1 r hr).2)⟩,by rw[atsC,atsL];simp;omega⟩
 ·obtain⟨us,m,h2,h⟩:=Rz.then_ok h
  injection h with h3 h4
  subst h3 h4;have a2:=z5o hn hf hb hd hk1 h2;have g2:=a2.2.2.2.2.1.2;exact⟨by omega,a2.2.1,⟨.k13 a2.2.2.1 (by omega) a2.2.2.2.2.2 (fun r hr=>(a2.2.2.2.2.1.1 r hr).1),.mk (by simp) (by simp) nilP f0.1 f0.2 (by simp) (by simp) a2.2.2.2.2.2 nil nil (fun r hr=>(a2.2.2.2.2.1.1 r hr).2)⟩,by rw[atsC,atsL];simp;omega⟩
 ·obtain⟨us,m,h2,h⟩:=Rz.then_ok h
  injection h with h3 h4
  subst h3 h4;have a2:=z5o hn hf hb hd hk1 h2;have g2:=a2.2.2.2.2.1.2;exact⟨by omega,a2.2.1,⟨.k14 a2.2.2.1 (by omega) a2.2.2.2.2.2 (fun r hr=>(a2.2.2.2.2.1.1 r hr).1),.mk (by simp) (by simp) nilP f0.1 f0.2 (by simp) (by simp) a2.2.2.2.2.2 nil nil (fun r hr=>(a2.2.2.2.2.1.1 r hr).2)⟩,by rw[atsC,atsL];simp;omega⟩
 ·injection h with h3 h4
  subst h3 h4;exact⟨by omega,by omega,⟨.k15,.mk (by simp) (by simp) nilP f0.1 f0.2 (by simp) (by simp) (by simp) nil nil nilU⟩,by rw[atsC,atsL,atsU];simp⟩
 ·injection h with h3 h4
  subst h3 h4;exact⟨by omega,by omega,⟨.k16,.mk (by simp) (by simp) nilP f0.1 f0.2 (by simp) (by simp) (by simp) nil nil nilU⟩,by rw[atsC,atsL,atsU];simp⟩
 ·cases h
def RecOk (l:List Tok) (rec:Nat→Nat→Rz (List Cm)):Prop:=∀ d k xs j,d≤16→k≤l.length→rec d k= .ok xs j→k≤j∧j≤l.length∧GdL (d:Int) xs (j - k)
omit hn in
theorem y50 {rec:Nat→Nat→Rz (List Cm)} (hr:RecOk l rec):BlkOk l (blockF l rec):=by
 intro d k xs j hd hk h;obtain⟨u,i,h1,h⟩:=Rz.then_ok h;have a1:=z0r (z5k hk) h1;have a2:=z3c h1;obtain⟨ys,m,h2,h⟩:=Rz.then_ok h;have a3:=hr (d+1) i ys m (by omega) a1.2 h2;obtain⟨u2,m2,h3,h⟩:=Rz.then_ok h;have a4:=z0r (z36 (l:=l) (kd:=4) (w:=[125]) (by decide) a3.2.1) h3;injection h with h4 h5
 subst h4 h5;exact⟨by omega,a4.2,by omega,a3.2.2.1,by have:=a3.2.2.2;omega⟩
theorem z7h (hf:FitL l):∀ N,RecOk l (cmdsF l N)
 | 0,d,k,xs,j,hd,hk,h=>by
   rw[cmdsF] at h;injection h with h1 h2
   subst h1 h2;exact⟨Nat.le_refl _,hk,(fun x hx=>by cases hx),by rw[atsL];exact Nat.zero_le _⟩
 | N+1,d,k,xs,j,hd,hk,h=>by
   rw[cmdsF] at h
   split at h
   ·rename_i c
    have hkl:=z17 (l:=l) (k:=k) (by rw[c];decide);obtain⟨x,i,h1,h⟩:=Rz.then_ok h;have a1:=x2d hn hf (y50 (z7h hf N)) hd hkl h1;obtain⟨ys,m,h2,h⟩:=Rz.then_ok h;have a2:=z7h hf N d i ys m hd a1.2.1 h2;injection h with h3 h4
    subst h3 h4;refine⟨by omega,a2.2.1,fun y hy=>?_,?_⟩
    ·rcases List.mem_cons.1 hy with rfl | hy
     ·exact a1.2.2.1
     ·exact a2.2.2.1 y hy
    ·rw[atsL,List.length_append]
     have:=a1.2.2.2;have:=a2.2.2.2;omega
   ·injection h with h1 h2
    subst h1 h2;exact⟨Nat.le_refl _,hk,(fun x hx=>by cases hx),by rw[atsL];exact Nat.zero_le _⟩
theorem x2l (hf:FitL l) {xs:List Cm} {j:Nat} (h:allF l= .ok xs j):GdL 0 xs 250:=by
 obtain⟨ys,i,h1,h⟩:=Rz.then_ok h;have a:=z7h hn hf (l.length+1) 0 0 ys i (by decide) (Nat.zero_le _) h1
 split at h
 ·cases h
 ·injection h with h2 _
  subst h2;exact⟨a.2.2.1,by have:=a.2.2.2;omega⟩
end
theorem x0v (s:BA) (hs:s.size≤250):GdL 0 (parS s.data.toList).1 250:=by
 have none:GdL 0 [] 250:=⟨(fun x hx=>by cases hx),by rw[atsL];exact Nat.zero_le _⟩
 rcases z7g s hs with ⟨q,e,h,_⟩ | ⟨ts,h,hf,hl⟩
 ·unfold parS;rw[h];exact none
 ·unfold parS;rw[h]
  show GdL 0 (ansS ts s.data.toList.length).1 250;unfold ansS
  cases ha:allF ts with
  | ok xs j=>exact x2l hl hf ha
  | bad j d=>exact none
end
theorem x2w {w:World} {A:OA} {zs:List Int} (h:RdI w A zs) {j:Nat} {z:Int} (hz:zs[j]?=some z):∃ ad,A=some ad∧w.cell? (ad.add j)=some (.int .i64 z):=by
 rcases h with rfl | ⟨ad,e,_,hc⟩
 ·simp at hz
 ·exact⟨ad,e,hc j _ (by rw[List.getElem?_map,hz];rfl)⟩
theorem y6q (s:BA) (hs:s.size≤250) (w:World) (hG:Given w):Cz 3 #[s] w fun e w'=>e= .returned true∧Below w.heap.size w w':=by
 have HA:=zz (z89 w hG);have HGv:=zz hG;have hok:=x0v s hs;obtain⟨xs,hxs⟩:∃ x,x=(parS s.data.toList).1:=⟨_,rfl⟩;obtain⟨n,hn⟩:∃ x,x=(parS s.data.toList).2.1:=⟨_,rfl⟩;obtain⟨f,hf⟩:∃ x,x=(parS s.data.toList).2.2:=⟨_,rfl⟩;rw[←hxs] at hok;have hln:xs.length≤1000000:=by have:=z6q xs;have:=hok.2;omega
 have K1:Hid (∀ w',Below w.heap.size w w'→Cz 6 #[s] w' fun e w2=>∃ A c,e= .returned (.tuple #[.slice A xs.length c,n,f])∧Below w'.heap.size w' w2∧RowC (LtX w2.heap.size) w2 A xs):=zz fun w' hw=>by
  have:=z5r s hs w' (HGv.out.below hw);unfold ParP at this;rw[←hxs,←hn,←hf] at this;exact this
 have K2:Hid (∀ w',Cz 7 #[s] w' fun e w2=>∃ A c,e= .returned (.tuple #[.slice A xs.length c,n,f])∧Below w'.heap.size w' w2∧RowC (LtX w2.heap.size) w2 A xs):=zz fun w'=>by
  have:=y6h s hs w';unfold ParP at this;rw[←hxs,←hn,←hf] at this;exact this
 have K3:Hid (∀ W A A' c c',RowC (LtX W.heap.size) W A xs→RowC (LtX W.heap.size) W A' xs→Cz 8 #[.slice A xs.length c,.slice A' xs.length c'] W fun e w2=>e= .returned true∧Below W.heap.size W w2):=zz fun W A A' c c' h h'=>by
  have:=y5h xs xs A A' c c' W h h' (fun x hx=>(hok.1 x hx).2) (fun x hx=>(hok.1 x hx).2) hln;rw[z0v rfl] at this;exact this
 have K4:Hid (∀ W A c,RowC (LtX W.heap.size) W A xs→Cz 9 #[.slice A xs.length c] W fun e w'=>∃ A' c',e= .returned (.slice A' (atsL xs).length c')∧RdI w' A' (atsL xs)∧Below W.heap.size W w'):=zz fun W A c h=>x2k xs A c W h (by have:=hok.2;omega)
 have K5:Hid (∀ W A c,RowC (LtX W.heap.size) W A xs→Cz 10 #[.slice A xs.length c] W fun e w'=>e= .returned true∧Below W.heap.size W w'):=zz fun W A c h=>y0z xs A c W h (fun x hx=>(hok.1 x hx).1) hln
 have hl250:=hok.2;obtain⟨L,hL⟩:∃ x,x=atsL xs:=⟨_,rfl⟩;rw[←hL] at K4 hl250;obtain⟨ll,hll⟩:∃ x,x=L.length:=⟨_,rfl⟩;rw[←hll] at K4 hl250;obtain⟨lx,hlx⟩:∃ x,x=xs.length:=⟨_,rfl⟩;rw[←hlx] at K1 K2 K3 K4 K5;have HLL:=zz hll;have b1:(n != n)=false:=by simp
 have b2:(f != f)=false:=by simp
 have b3:((ll:Int) != (ll:Int))=false:=by simp
 have hsz:¬ (250:Int)<(s.size:Int):=by omega
 clear hG HGv hok hxs hn hf hln hL hll hlx;go_enter Tryz.func3,Tryz.ntmps3
 go_wp2_with (first
  | (go_at_call 5;go_must ((with_reducible refine(HA.out).mono ?_);rintro e w1 ⟨rfl,hb1⟩;have HB1:=zz hb1;clear hb1))
  | (go_at_call 6;((with_reducible refine(K1.out _ HB1.out).mono ?_);rintro e w2 ⟨A2,c2,rfl,hb2,hk2⟩;have HK2:=zz hk2;have HB2:=zz (HB1.out.trans (hb2.mono HB1.out.size));clear hb2 hk2 K1))
  | (go_at_call 7;((with_reducible refine(K2.out _).mono ?_);rintro e w3 ⟨A3,c3,rfl,hb3,hk3⟩;have HK3:=zz hk3;have HK2b:=zz (HK2.out.next hb3);have HB3:=zz (HB2.out.trans (hb3.mono HB2.out.size));clear hb3 hk3 K2 HK2))
  | (go_at_call 8;((with_reducible refine(K3.out _ _ _ _ _ HK2b.out HK3.out).mono ?_);rintro e w4 ⟨rfl,hb4⟩;have HK4:=zz (HK2b.out.next hb4);have HK4b:=zz (HK3.out.next hb4);have HB4:=zz (HB3.out.trans (hb4.mono HB3.out.size));clear hb4 K3 HK2b HK3))
  | (go_at_call 9;((with_reducible refine(K4.out _ _ _ HK4.out).mono ?_);rintro e w5 ⟨A5,c5,rfl,hr5,hb5⟩;have HR5:=zz hr5;have HK5:=zz (HK4.out.next hb5);have HK5b:=zz (HK4b.out.next hb5);have HB5:=zz (HB4.out.trans (hb5.mono HB4.out.size));clear hb5 hr5 HK4 HK4b))
  | (go_at_call 9;((with_reducible refine(K4.out _ _ _ HK5b.out).mono ?_);rintro e w6 ⟨A6,c6,rfl,hr6,hb6⟩;have HR6:=zz hr6;have HR5b:=zz (HR5.out.next hb6);have HK6:=zz (HK5.out.next hb6);have HB6:=zz (HB5.out.trans (hb6.mono HB5.out.size));clear hb6 hr6 HK5 HK5b HR5 K4)))
 go_loopw [54] (fun i wr=>∃ j:Nat,j≤ll∧i= .int .i64 j∧Hid (Below w6.heap.size w6 wr)) (fun i _=>ll - (intOf i).toNat)
 case atStart=>exact⟨0,by omega,rfl,zz bR⟩
 case round=>
  obtain⟨j,hj,rfl,HW⟩:=hrel;by_cases a:j<ll
  ·obtain⟨z,hz⟩:=z0t HLL.out a
   obtain⟨ad,rfl,h5⟩:=x2w (HR5b.out.next HW.out) hz;obtain⟨ad',rfl,h6⟩:=x2w (HR6.out.next HW.out) hz;have hb5:=World.block_lt_of_cell? _ _ h5;have hb6:=World.block_lt_of_cell? _ _ h6;have b4:(z != z)=false:=by simp
   go_wp2;go_quiet (fail);go_wp2
   go_roundw
   case rel=>exact⟨j+1,by omega,by go_num,zz (z0e HW.out _)⟩
   case measure=>simp[intOf];omega
  ·have HK7:=zz (HK6.out.next HW.out)
   by_cases e:f=0
   ·subst e
    go_wp2_with (go_at_call 10;go_must ((with_reducible refine(K5.out _ _ _ HK7.out).mono ?_);rintro e w7 ⟨rfl,hb7⟩;have HB7:=zz (HW.out.trans (hb7.mono HW.out.size));clear hb7));go_ret;exact⟨rfl,HB6.out.trans (HB7.out.mono HB6.out.size)⟩
   ·have b5:(f != 0)=true:=by simp[e]
    go_wp2;go_ret;exact⟨rfl,HB6.out.trans (HW.out.mono HB6.out.size)⟩
theorem y9v (s:BA) (w:World) (hG:Given w):Cz 3 #[s] w fun e w'=>e= .returned true∧Below w.heap.size w w':=by
 by_cases hs:s.size≤250
 ·exact y6q s hs w hG
 ·have HA:=zz (z89 w hG)
  have hsz:(250:Int)<(s.size:Int):=by omega
  clear hG;go_enter Tryz.func3,Tryz.ntmps3;go_wp2_with (go_at_call 5;go_must ((with_reducible refine(HA.out).mono ?_);rintro e w1 ⟨rfl,hb1⟩;have HB1:=zz hb1;clear hb1));go_ret;exact⟨rfl,HB1.out⟩
end Go.Proofs.YtngfihoempcplaaGreatDoor
