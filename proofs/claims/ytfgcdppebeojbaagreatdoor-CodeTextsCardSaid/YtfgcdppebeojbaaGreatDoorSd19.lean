import Derived.Test.YtfgcdppebeojbaaGreatDoorSta
import Derived.Test.YtfgcdppebeojbaaGreatDoorStb
import Derived.Test.YtfgcdppebeojbaaGreatDoorStc
import Derived.Test.YtfgcdppebeojbaaGreatDoorStd
import Derived.Test.YtfgcdppebeojbaaGreatDoorSc41
import Derived.Test.YtfgcdppebeojbaaGreatDoorSm4
namespace Go.Proofs.YtfgcdppebeojbaaGreatDoor
open Go Go.RowKit
set_option maxRecDepth 100000
set_option maxHeartbeats 8000000
section
theorem kindW_at:∀ j,j<16→kindW (wordsC.getD j [])=j+1:=by decide
theorem kindW_iff {w:Bs} {j:Nat} (hj:j<16):w=wordsC.getD j [] ↔ kindW w=j+1:=by
 constructor
 ·rintro rfl;exact kindW_at j hj
 ·intro h
  unfold kindW at h
  split at h
  ·rename_i hm
   have hl:=List.idxOf_lt_length_of_mem hm;have e:List.idxOf w wordsC=j:=by omega
   have:=List.getElem_idxOf hl;rw[List.getD_eq_getElem?_getD,←e,List.getElem?_eq_getElem hl,this];rfl
  ·omega
theorem wd_list (j:Nat):(wdS j).data.toList=wordsC.getD j []:=by unfold wdS;simp
theorem isW_word {l:List Tok} {k:Nat} (h1:(nxz l k).kind=1) {j:Nat} (hj:j<16):isT l 1 (wdS j).data.toList k=decide (kindW (nxz l k).word=j+1):=by
 unfold isT;rw[wd_list];by_cases e:kindW (nxz l k).word=j+1
 ·rw[decide_eq_true e];exact decide_eq_true ⟨h1,(kindW_iff hj).2 e⟩
 ·rw[decide_eq_false e];exact decide_eq_false fun h=>e ((kindW_iff hj).1 h.2)
theorem isW_none {l:List Tok} {k:Nat} (h1:¬ (nxz l k).kind=1) (j:Nat):isT l 1 (wdS j).data.toList k=decide (0=j+1):=by
 rw[decide_eq_false (by omega)];unfold isT;exact decide_eq_false fun h=>h1 h.1
noncomputable def cmdG (l:List Tok) (blk:Nat→Nat→Rz (List Cm)) (d k:Nat):Rz Cm:=if (nxz l k).kind=1 then cmdF l blk d k else .bad k false
theorem num_plain {l:List Tok} {z:Int} (h3:z≠3) (h11:z≠11) (k:Nat):numF l z k=(kindF l 2 k).then fun t j=> .ok t.n j:=by
 unfold numF;rw[if_neg (fun e=>h3 e.1),if_neg (fun e=>h11 e.1)]
section
variable {b:Nat} {S:ByteArray} {A:Option Addr} {n c:Nat} {l:List Tok} {blk:Nat→Nat→Rz (List Cm)} {k0:Nat}
theorem blE (HB:BlkD b S A n c l blk k0) {d k o:Nat} {R:Rz (List Cm)} (hk:o=0→k0≤k∧d≤16) (hd:d≤99) (h:gate o k (blk d)=R):BlD b S A n c l d k o R:=blD b S A n c l blk k0 HB d k o hk hd h
theorem ruE (hIn:BlkIn l blk) (HB:BlkD b S A n c l blk k0) {d k o:Nat} {R:Rz (List Ru)} (hk:o=0→k0≤k∧d≤16) (hd:d≤98) (h:gate o k (rulesF l blk d)=R):RusDC b S A n c l d k o R:=Lib.hid fun w' h'=>by subst h;exact drules_any b S A n c l blk hIn k0 HB d k o w' hk hd h'
theorem dcmd_word (hIn:BlkIn l blk) (HB:BlkD b S A n c l blk k0) (d k:Nat) (w:World) (hd:d≤16) (hk0:k0≤k+1) (h:DocS b w S A n c l k 0) (hk1:(nxz l k).kind=1):
  Calls Tryz.prog 42 #[.pointer (some ⟨b,0,none⟩),.int .i64 d] w (CmdD b w S A n c l (cmdF l blk d k)):=by
 have hkl:k<l.length:=nxz_lt (by rw[hk1];decide);have hlen:=h.len;have hkn:k+1≤n:=by omega
 have hk2:k+1≤l.length:=hkl;have ht:l[k]?=some (nxz l k):=by rw[nxz_at (List.getElem?_eq_getElem hkl)];exact List.getElem?_eq_getElem hkl
 obtain⟨K,hK⟩:∃ K,K=kindW (nxz l k).word:=⟨_,rfl⟩;have hK16:=kindW_le (nxz l k).word;have KW:∀ j,j<16→IsC b S A n c l 1 (wdS j) k 0 (decide (K=j+1)):=fun j hj=>isC b S A n c l 1 (by decide) (wdS j) k 0 (by rw[hK];exact isW_word hk1 hj)
 rw[←hK] at hK16;have hcases:K=0∨K=1∨K=2∨K=3∨K=4∨K=5∨K=6∨K=7∨K=8∨K=9∨K=10∨K=11∨K=12∨K=13∨K=14∨K=15∨K=16:=by omega
 have atge:∀ {α:Type} {R:Rz α} {i m:Nat},R.within i m→R.err=0→i≤R.at∧R.at≤m:=fun {α R i m} hw he=>by
  obtain⟨x,j,hx⟩:=ok_of_err he;subst hx;exact hw
 rcases hcases with rfl | rfl | rfl | rfl | rfl | rfl | rfl | rfl | rfl | rfl | rfl | rfl | rfl | rfl | rfl | rfl | rfl
 ·have e:cmdF l blk d k= .bad k false:=by unfold cmdF;dsimp only;rw[←hK];rfl
  rw[e];exact dcmd_a b w S A n c l d k h _ ht _ (by decide) KW _ (.k0 (faiC (z:=1) b S A n c l k 1 k 0 (.inl rfl) h.le rfl (if_pos rfl) (if_pos rfl)) rfl)
 ·have e:cmdF l blk d k=(nameF l (k+1)).then fun s i=>(kindF l 3 i).then fun t j=> .ok (Cm.mk 1 s 0 t.parts exNone [] [] [] (nxz l k).pl) j:=by
   unfold cmdF;dsimp only;rw[←hK];unfold textF;simp only[Rz.then_assoc];rfl
  exact dcmd_c b w S A n c l d k h _ ht _ (by decide) KW _ (.k1 _ _ (naC b S A n c l (k+1) 0 (gate_ok _ _)) (takC b S A n c l 3 (by decide) _ _ rfl)
   (fun s tk hs ht=>fin3 ht (g:=fun t=>Cm.mk 1 s 0 t.parts exNone [] [] [] (nxz l k).pl) (e.trans (then_seq hs (kindF l 3) (fun s t j=> .ok (Cm.mk 1 s 0 t.parts exNone [] [] [] (nxz l k).pl) j)))) (fun he=>(gate_zero (Rz.err_cases _) he).1))
 ·have e:cmdF l blk d k=(nameF l (k+1)).then fun s i=>(condF l i).then fun x j=> .ok (Cm.mk 2 s 0 [] x [] [] [] (nxz l k).pl) j:=by unfold cmdF;dsimp only;rw[←hK];rfl
  exact dcmd_c b w S A n c l d k h _ ht _ (by decide) KW _ (.k2 _ _ (naC b S A n c l (k+1) 0 (gate_ok _ _)) (coD b S A n c l _ _ rfl)
   (fun s x hs hx=>fin3 hx (g:=fun x=>Cm.mk 2 s 0 [] x [] [] [] (nxz l k).pl) (e.trans (then_seq hs (condF l) (fun s x j=> .ok (Cm.mk 2 s 0 [] x [] [] [] (nxz l k).pl) j)))) (fun he=>(gate_zero (Rz.err_cases _) he).1))
 ·have e:cmdF l blk d k=(nameF l (k+1)).then fun s i=>(numF l 3 i).then fun z j=> .ok (Cm.mk 3 s z [] exNone [] [] [] (nxz l k).pl) j:=by unfold cmdF;dsimp only;rw[←hK];rfl
  have K1:=naC b S A n c l (k+1) 0 (gate_ok (k+1) (nameF l));have hin1:=nameF_in (l:=l) hk2;generalize nameF l (k+1)=R1 at K1 e hin1
  cases hv:isO l 4 [45] R1.at R1.err with
  | true=>
    obtain⟨e9,hti⟩:=isO_lt (by decide) hv;obtain⟨s1,i1,rfl⟩:=ok_of_err e9;have hti:isT l 4 [45] i1=true:=hti;have hi1:i1+1≤n:=by have:=isT_lt hti (by decide);omega
    have e2:cmdF l blk d k=(kindF l 2 (i1+1)).then fun t j=> .ok (Cm.mk 3 s1 (-t.n) [] exNone [] [] [] (nxz l k).pl) j:=by
     rw[e];show (numF l 3 i1).then _=_
     unfold numF;rw[if_pos ⟨rfl,hti⟩,Rz.then_assoc];rfl
    have KT:=takC b S A n c l 2 (by decide) (i1+1) 0 (gate_ok (i1+1) (kindF l 2))
    have hb:∀ y j,kindF l 2 (i1+1)= .ok y j→0≤y.n∧y.n≤9223372036854775807:=fun y j hy=>by
     unfold kindF at hy
     split at hy
     ·rename_i h2
      injection hy with hy _
      subst hy;have hlt:=nxz_lt (l:=l) (k:=i1+1) (by rw[h2];decide);have hm:=h.fit.ok _ (List.getElem_mem hlt);have hm2:=(h.fit.fit _ (List.getElem_mem hlt)).n;rw[nxz_at (List.getElem?_eq_getElem hlt)] at h2 ⊢;unfold okT at hm;rw[if_pos h2] at hm;simp at hm;exact⟨hm.1.2,hm2.2⟩
     ·cases hy
    refine dcmd_c b w S A n c l d k h _ ht _ (by decide) KW _ (.k3y s1 i1 hi1 _ K1 (isC b S A n c l 4 (by decide) ⟨#[45]⟩ i1 0 hti) KT (fun s tn hs htn=>?_));obtain rfl:=hs _ _ rfl;have hf:=fin3 htn (g:=fun t=>Cm.mk 3 s1 (-t.n) [] exNone [] [] [] (nxz l k).pl) e2;refine⟨hf.1,hf.2.1,fun y j hy=>?_⟩;have hy2:=hf.2.2 y j hy;have he:(kindF l 2 (i1+1)).err=0:=by rw[←hf.2.1,hy];rfl
    obtain⟨y3,j3,h3⟩:=ok_of_err he;have:=hb y3 j3 h3;rw[htn y3 j3 h3] at this;rw[hy2,wrap_neg this]
  | false=>
    have e2:∀ s,(∀ y j,R1= .ok y j→y=s)→cmdF l blk d k=(gate R1.err R1.at (kindF l 2)).then fun t j=> .ok (Cm.mk 3 s t.n [] exNone [] [] [] (nxz l k).pl) j:=fun s hs=>by
     rw[e]
     cases R1 with
     | bad j dd=>cases dd <;> rfl
     | ok y j=>
       obtain rfl:=hs y j rfl;show (numF l 3 j).then _=(kindF l 2 j).then _
       unfold numF;rw[if_neg (fun q=>by have:=q.2;rw[show isT l 4 [45] j=false from hv] at this;cases this),if_neg (fun q=>by have:=q.1;omega),Rz.then_assoc];rfl
    exact dcmd_c b w S A n c l d k h _ ht _ (by decide) KW _ (.k3n _ _ K1 (isC b S A n c l 4 (by decide) ⟨#[45]⟩ R1.at R1.err hv) (takC b S A n c l 2 (by decide) _ _ rfl) (fun s tn hs htn=>fin3 htn (g:=fun t=>Cm.mk 3 s t.n [] exNone [] [] [] (nxz l k).pl) (e2 s hs)) (fun he=>(gate_zero (Rz.err_cases _) he).1))
 ·have e:cmdF l blk d k=(condF l (k+1)).then fun x i=>(blk d i).then fun xs j=>if isT l 1 [101,108,115,101] j then (blk d (j+1)).then fun ys m=> .ok (Cm.mk 4 [] 0 [] x xs ys [] (nxz l k).pl) m else .ok (Cm.mk 4 [] 0 [] x xs [] [] (nxz l k).pl) j:=by unfold cmdF;dsimp only;rw[←hK];rfl
  have e2:∀ x,(∀ y j,condF l (k+1)= .ok y j→y=x)→cmdF l blk d k=(gate (condF l (k+1)).err (condF l (k+1)).at (blk d)).then fun xs j=>if isT l 1 [101,108,115,101] j then (blk d (j+1)).then fun ys m=> .ok (Cm.mk 4 [] 0 [] x xs ys [] (nxz l k).pl) m else .ok (Cm.mk 4 [] 0 [] x xs [] [] (nxz l k).pl) j:=fun x hx=>e.trans (then_seq hx (blk d) (fun x xs j=>if isT l 1 [101,108,115,101] j then (blk d (j+1)).then fun ys m=> .ok (Cm.mk 4 [] 0 [] x xs ys [] (nxz l k).pl) m else .ok (Cm.mk 4 [] 0 [] x xs [] [] (nxz l k).pl) j))
  have K2:=blE (b:=b) (S:=S) (A:=A) (n:=n) (c:=c) (l:=l) HB (d:=d) (k:=(condF l (k+1)).at) (o:=(condF l (k+1)).err) (fun he=>by have:=atge (condF_in hk2) he;omega) (by omega) rfl
  have hin:(gate (condF l (k+1)).err (condF l (k+1)).at (blk d)).err=0→k0≤(gate (condF l (k+1)).err (condF l (k+1)).at (blk d)).at:=fun he=>by
   obtain⟨e0,x,hx⟩:=gate_zero (Rz.err_cases _) he;have h1:=atge (condF_in hk2) e0;have h2:=within_eq (hIn d _ h1.2) hx;omega
  have E1:(gate (condF l (k+1)).err (condF l (k+1)).at (blk d)).err=0→(condF l (k+1)).err=0:=fun he=>(gate_zero (Rz.err_cases _) he).1
  have K1:=coD b S A n c l (k+1) 0 (gate_ok (k+1) (condF l));generalize gate (condF l (k+1)).err (condF l (k+1)).at (blk d)=R2 at K2 hin e2 E1
  cases hv:isO l 1 [101,108,115,101] R2.at R2.err with
  | true=>
    obtain⟨e9,hti⟩:=isO_lt (by decide) hv;obtain⟨x2,i2,rfl⟩:=ok_of_err e9;have hti:isT l 1 [101,108,115,101] i2=true:=hti;have hi2:i2+1≤n:=by have:=isT_lt hti (by decide);omega
    have hk02:k0≤i2:=hin rfl;have K3:=blE (b:=b) (S:=S) (A:=A) (n:=n) (c:=c) (l:=l) HB (d:=d) (k:=i2+1) (o:=0) (R:=blk d (i2+1)) (fun _=>by omega) (by omega) (gate_ok _ _);refine dcmd_d b w S A n c l d k h _ ht _ (by decide) KW _ (.k4y _ x2 i2 hi2 _ K1 K2 (isC b S A n c l 1 (by decide) ⟨#[101,108,115,101]⟩ i2 0 hti) K3 (fun x xs ys hx hxs hys=>fin3 hys (g:=fun ys=>Cm.mk 4 [] 0 [] x xs ys [] (nxz l k).pl) ?_) (fun _=>E1 rfl));rw[e2 x hx];obtain rfl:=hxs _ _ rfl;exact if_pos hti
  | false=>
    refine dcmd_d b w S A n c l d k h _ ht _ (by decide) KW _ (.k4n _ R2 K1 K2 (isC b S A n c l 1 (by decide) ⟨#[101,108,115,101]⟩ R2.at R2.err hv) (fun x xs hx hxs=>fin3 hxs (g:=fun xs=>Cm.mk 4 [] 0 [] x xs [] [] (nxz l k).pl) ?_) E1);rw[e2 x hx]
    cases R2 with
    | bad j dd=>rfl
    | ok y j=>exact if_neg (by rw[show isT l 1 [101,108,115,101] j=false from hv];decide)
 ·have e:cmdF l blk d k=(condF l (k+1)).then fun x i=>(blk d i).then fun xs j=> .ok (Cm.mk 5 [] 0 [] x xs [] [] (nxz l k).pl) j:=by unfold cmdF;dsimp only;rw[←hK];rfl
  exact dcmd_d b w S A n c l d k h _ ht _ (by decide) KW _ (.k5 _ _ (coD b S A n c l (k+1) 0 (gate_ok _ _)) (blE HB (fun he=>by have:=atge (condF_in hk2) he;omega) (by omega) rfl)
   (fun x xs hs hx=>fin3 hx (g:=fun xs=>Cm.mk 5 [] 0 [] x xs [] [] (nxz l k).pl) (e.trans (then_seq hs (blk d) (fun x xs j=> .ok (Cm.mk 5 [] 0 [] x xs [] [] (nxz l k).pl) j)))) (fun he=>(gate_zero (Rz.err_cases _) he).1))
 ·have e:cmdF l blk d k=(nameF l (k+1)).then fun s i=>(blk d i).then fun xs j=> .ok (Cm.mk 6 s 0 [] exNone xs [] [] (nxz l k).pl) j:=by unfold cmdF;dsimp only;rw[←hK];rfl
  exact dcmd_c b w S A n c l d k h _ ht _ (by decide) KW _ (.k6 _ _ (naC b S A n c l (k+1) 0 (gate_ok _ _)) (blE HB (fun he=>by have:=atge (nameF_in hk2) he;omega) (by omega) rfl)
   (fun s xs hs hx=>fin3 hx (g:=fun xs=>Cm.mk 6 s 0 [] exNone xs [] [] (nxz l k).pl) (e.trans (then_seq hs (blk d) (fun s xs j=> .ok (Cm.mk 6 s 0 [] exNone xs [] [] (nxz l k).pl) j)))) (fun he=>(gate_zero (Rz.err_cases _) he).1))
 ·have e:cmdF l blk d k=(nameF l (k+1)).then fun s j=> .ok (Cm.mk 7 s 0 [] exNone [] [] [] (nxz l k).pl) j:=by unfold cmdF;dsimp only;rw[←hK];rfl
  exact dcmd_a b w S A n c l d k h _ ht _ (by decide) KW _ (.k7 _ (naC b S A n c l (k+1) 0 (gate_ok _ _)) (fun s hs=>fin3 hs (g:=fun s=>Cm.mk 7 s 0 [] exNone [] [] [] (nxz l k).pl) e))
 ·have e:cmdF l blk d k=(kindF l 2 (k+1)).then fun t j=> .ok (Cm.mk 8 [] t.n [] exNone [] [] [] (nxz l k).pl) j:=by
   unfold cmdF;dsimp only;rw[←hK];show (numF l 8 (k+1)).then _=_
   rw[num_plain (by decide) (by decide),Rz.then_assoc];rfl
  exact dcmd_a b w S A n c l d k h _ ht _ (by decide) KW _ (.k8 _ (takC b S A n c l 2 (by decide) (k+1) 0 (gate_ok _ _)) (fun tn htn=>fin3 htn (g:=fun t=>Cm.mk 8 [] t.n [] exNone [] [] [] (nxz l k).pl) e))
 ·have e:cmdF l blk d k=(kindF l 2 (k+1)).then fun t j=> .ok (Cm.mk 9 [] t.n [] exNone [] [] [] (nxz l k).pl) j:=by
   unfold cmdF;dsimp only;rw[←hK];show (numF l 9 (k+1)).then _=_
   rw[num_plain (by decide) (by decide),Rz.then_assoc];rfl
  exact dcmd_a b w S A n c l d k h _ ht _ (by decide) KW _ (.k9 _ (takC b S A n c l 2 (by decide) (k+1) 0 (gate_ok _ _)) (fun tn htn=>fin3 htn (g:=fun t=>Cm.mk 9 [] t.n [] exNone [] [] [] (nxz l k).pl) e))
 ·have e:cmdF l blk d k=(kindF l 3 (k+1)).then fun t j=> .ok (Cm.mk 10 [] 0 t.parts exNone [] [] [] (nxz l k).pl) j:=by
   unfold cmdF;dsimp only;rw[←hK];unfold textF;simp only[Rz.then_assoc];rfl
  exact dcmd_b b w S A n c l d k h _ ht _ (by decide) KW _ (.k10 _ (takC b S A n c l 3 (by decide) (k+1) 0 (gate_ok _ _)) (fun tk ht=>fin3 ht (g:=fun t=>Cm.mk 10 [] 0 t.parts exNone [] [] [] (nxz l k).pl) e))
 ·have e:cmdF l blk d k=(numF l 11 (k+1)).then fun z j=> .ok (Cm.mk 11 [] z [] exNone [] [] [] (nxz l k).pl) j:=by unfold cmdF;dsimp only;rw[←hK];rfl
  cases hv:isT l 1 [110,101,118,101,114] (k+1) with
  | true=>
    have e2:cmdF l blk d k= .ok (Cm.mk 11 [] (-1) [] exNone [] [] [] (nxz l k).pl) (k+1+1):=by
     rw[e];unfold numF;rw[if_neg (fun q=>by have:=q.1;omega),if_pos ⟨rfl,hv⟩];rfl
    exact dcmd_b b w S A n c l d k h _ ht _ (by decide) KW _ (.k11y (by have:=isT_lt hv (by decide);omega) (isC b S A n c l 1 (by decide) ⟨#[110,101,118,101,114]⟩ (k+1) 0 hv) (by rw[e2];exact⟨rfl,rfl,fun y j h=>by injection h with h;exact h.symm⟩))
  | false=>
    have e2:cmdF l blk d k=(kindF l 2 (k+1)).then fun t j=> .ok (Cm.mk 11 [] t.n [] exNone [] [] [] (nxz l k).pl) j:=by
     rw[e];unfold numF;rw[if_neg (fun q=>by have:=q.1;omega),if_neg (fun q=>by have:=q.2;rw[hv] at this;cases this),Rz.then_assoc];rfl
    exact dcmd_b b w S A n c l d k h _ ht _ (by decide) KW _ (.k11n _ (isC b S A n c l 1 (by decide) ⟨#[110,101,118,101,114]⟩ (k+1) 0 hv) (takC b S A n c l 2 (by decide) (k+1) 0 (gate_ok _ _)) (fun tn htn=>fin3 htn (g:=fun t=>Cm.mk 11 [] t.n [] exNone [] [] [] (nxz l k).pl) e2))
 ·have e:cmdF l blk d k=(rulesF l blk d (k+1)).then fun us j=> .ok (Cm.mk 12 [] 0 [] exNone [] [] us (nxz l k).pl) j:=by unfold cmdF;dsimp only;rw[←hK];rfl
  exact dcmd_b b w S A n c l d k h _ ht _ (by decide) KW _ (.k12 _ (ruE hIn HB (fun _=>⟨hk0,hd⟩) (by omega) (gate_ok _ _)) (fun us hs=>fin3 hs (g:=fun us=>Cm.mk 12 [] 0 [] exNone [] [] us (nxz l k).pl) e))
 ·have e:cmdF l blk d k=(rulesF l blk d (k+1)).then fun us j=> .ok (Cm.mk 13 [] 0 [] exNone [] [] us (nxz l k).pl) j:=by unfold cmdF;dsimp only;rw[←hK];rfl
  exact dcmd_b b w S A n c l d k h _ ht _ (by decide) KW _ (.k13 _ (ruE hIn HB (fun _=>⟨hk0,hd⟩) (by omega) (gate_ok _ _)) (fun us hs=>fin3 hs (g:=fun us=>Cm.mk 13 [] 0 [] exNone [] [] us (nxz l k).pl) e))
 ·have e:cmdF l blk d k=(rulesF l blk d (k+1)).then fun us j=> .ok (Cm.mk 14 [] 0 [] exNone [] [] us (nxz l k).pl) j:=by unfold cmdF;dsimp only;rw[←hK];rfl
  exact dcmd_b b w S A n c l d k h _ ht _ (by decide) KW _ (.k14 _ (ruE hIn HB (fun _=>⟨hk0,hd⟩) (by omega) (gate_ok _ _)) (fun us hs=>fin3 hs (g:=fun us=>Cm.mk 14 [] 0 [] exNone [] [] us (nxz l k).pl) e))
 ·have e:cmdF l blk d k= .ok (Cm.mk 15 [] 0 [] exNone [] [] [] (nxz l k).pl) (k+1):=by unfold cmdF;dsimp only;rw[←hK];rfl
  exact dcmd_a b w S A n c l d k h _ ht _ (by decide) KW _ (.k15 (by rw[e];exact⟨rfl,rfl,fun y j h=>by injection h with h;exact h.symm⟩))
 ·have e:cmdF l blk d k= .ok (Cm.mk 16 [] 0 [] exNone [] [] [] (nxz l k).pl) (k+1):=by unfold cmdF;dsimp only;rw[←hK];rfl
  exact dcmd_a b w S A n c l d k h _ ht _ (by decide) KW _ (.k16 (by rw[e];exact⟨rfl,rfl,fun y j h=>by injection h with h;exact h.symm⟩))
theorem dcmd_any (hIn:BlkIn l blk) (HB:BlkD b S A n c l blk k0) (d k:Nat) (w:World) (hd:d≤16) (hk0:k0≤k+1) (hkl:k<l.length) (h:DocS b w S A n c l k 0):
  Calls Tryz.prog 42 #[.pointer (some ⟨b,0,none⟩),.int .i64 d] w (CmdD b w S A n c l (cmdG l blk d k)):=by
 unfold cmdG;by_cases hk1:(nxz l k).kind=1
 ·rw[if_pos hk1];exact dcmd_word hIn HB d k w hd hk0 h hk1
 ·rw[if_neg hk1]
  have ht:l[k]?=some (nxz l k):=by rw[nxz_at (List.getElem?_eq_getElem hkl)];exact List.getElem?_eq_getElem hkl
  exact dcmd_a b w S A n c l d k h _ ht 0 (by decide) (fun j _=>isC b S A n c l 1 (by decide) (wdS j) k 0 (isW_none hk1 j)) _ (.k0 (faiC (z:=1) b S A n c l k 1 k 0 (.inl rfl) h.le rfl (if_pos rfl) (if_pos rfl)) rfl)
end
end
section
theorem cmdsD_more {l:List Tok} {N d k:Nat} (h:k<l.length∧¬ isT l 4 [125] k=true):cmdsD l (N+1) d k=(cmdG l (blockF l (cmdsD l N)) d k).then fun c i=>(cmdsD l N d i).then fun cs m=> .ok (c::cs) m:=by
 rw[cmdsD,if_pos h];unfold cmdG
 split <;> rfl
theorem cmdsD_stop {l:List Tok} {N d k:Nat} (h:¬ (k<l.length∧¬ isT l 4 [125] k=true)):cmdsD l N d k= .ok [] k:=by
 cases N <;> rw[cmdsD,if_neg h]
theorem cmdG_in {l:List Tok} {blk:Nat→Nat→Rz (List Cm)} (hb:BlkIn l blk) {d k:Nat} (h:k<l.length):(cmdG l blk d k).within (k+1) l.length:=by
 unfold cmdG
 split
 ·exact cmdF_in hb h
 ·exact Nat.le_of_lt h
theorem isBw {b:Nat} {S:ByteArray} {A:Option Addr} {n c:Nat} {l:List Tok} {kd:Int} {W:ByteArray} {k o:Nat} {v:Bool} (K:IsC b S A n c l kd W k o v) {w:World} (h:DocS b w S A n c l k o) (m:Bw w):
 Calls Tryz.prog 41 #[.pointer (some ⟨b,0,none⟩),.int .i64 kd,.string W] m.at fun e w''=>e= .returned (.bool v)∧∃ m':Bw w,w''=m'.at:=bw_calls (K.out m.at (h.low m.2))
abbrev CmdDC (b:Nat) (S:ByteArray) (A:Option Addr) (n c:Nat) (l:List Tok) (d k:Nat) (R:Rz Cm):Prop:=Hid (∀ w',DocS b w' S A n c l k 0→Calls Tryz.prog 42 #[.pointer (some ⟨b,0,none⟩),.int .i64 d] w' fun e w2=>
 ∃ (x:Cm) (lk:Lk),e= .returned (.agg #[.int .i64 x.kind,.string ⟨x.name.toArray⟩,.int .i64 x.n,.slice lk.p x.parts.length lk.cp,.int .i64 x.cond.kind,.int .i64 x.cond.n,.string ⟨x.cond.name.toArray⟩,.string ⟨x.cond.op.toArray⟩,.slice lk.x x.cond.kids.length lk.cx,
  .slice lk.b x.body.length lk.cb,.slice lk.e x.els.length lk.ce,.slice lk.u x.rules.length lk.cu,.int .i64 x.pl])∧StepD b w' S A n c l R.at R.err w2∧(∀ y j,R= .ok y j→y=x)∧(R.err=0→KidC (NwX b w'.heap.size w2.heap.size) w2 lk x))
structure CmJ (b:Nat) (w:World) (S:ByteArray) (A:Option Addr) (n c:Nat) (l:List Tok) (N k0 d:Nat) (R:Rz (List Cm)) (M:Nat) (v:Value) (wr:World) (es:List XC) (k o:Nat):Prop where
 row:RoH cfC 13 67 KPC b w wr S A n c l k o v es
 eq:R=(gate o k (cmdsD l M d)).then fun cs m=> .ok (es.map (·.1)++cs) m
 fuel:o=0→n<k+M∧k0≤k∧d≤16∧es.length≤k
 le:M≤N
section
variable {b:Nat} {w wr w' w2 w3:World} {S:ByteArray} {A:Option Addr} {n c:Nat} {l:List Tok} {N k0 d:Nat} {R:Rz (List Cm)} {M:Nat} {v:Value} {es:List XC} {k o:Nat}
theorem CmJ.stop (h:CmJ b w S A n c l N k0 d R M v wr es k o) (hk:o=0→¬ (k<l.length∧¬ isT l 4 [125] k=true)) (hb:Below wr.heap.size wr w'):RowD b w S A n c l R (.returned v) w':=by
 have hR:=h.row.below monoC hb;obtain⟨A',c',rfl,hrow⟩:=rowC_ownD hR;have hoks:=h.row.cx.rd.oks;by_cases ho:o=0
 ·subst ho
  have e1:R= .ok (es.map (·.1)) k:=by
   rw[h.eq,gate_ok,cmdsD_stop (hk rfl)];show Rz.ok (es.map (·.1)++[]) k=_;rw[List.append_nil]
  rw[e1];exact⟨A',es.map (·.1),c',rfl,hR.cx.step,fun y j e=>by injection e with e;exact e.symm,fun _=>hrow rfl⟩
 ·have ho2:=hoks.resolve_left ho
  have e1:R.at=k∧R.err=o∧∀ y j,R≠ .ok y j:=by
   rw[h.eq]
   rcases ho2 with rfl | rfl <;> exact⟨rfl,rfl,fun _ _ e=>by cases e⟩
  refine⟨A',es.map (·.1),c',rfl,?_,fun y j e=>absurd e (e1.2.2 y j),fun e=>absurd (e1.2.1.symm.trans e) ho⟩;rw[e1.1,e1.2.1];exact hR.cx.step
theorem CmJ.step (h:CmJ b w S A n c l N k0 d R M v wr es k o) (hb:Below wr.heap.size wr w'):CmJ b w S A n c l N k0 d R M v w' es k o:=⟨h.row.below monoC hb,h.eq,h.fuel,h.le⟩
theorem CmJ.more (h:CmJ b w S A n c l N k0 d R (M+1) v wr es k 0) (hk1:k<l.length∧¬ isT l 4 [125] k=true) {x:Cm} {lk:Lk}
  (hs:StepD b wr S A n c l (cmdG l (blockF l (cmdsD l M)) d k).at (cmdG l (blockF l (cmdsD l M)) d k).err w2) (hv:∀ y j,cmdG l (blockF l (cmdsD l M)) d k= .ok y j→y=x) (hk:(cmdG l (blockF l (cmdsD l M)) d k).err=0→KidC (NwX b wr.heap.size w2.heap.size) w2 lk x)
  {g cap:Nat} (hr:w3.ownsRow w.heap.size 67 13 (.slice (some ⟨g,0,none⟩) (es.length+1) cap) (es.length+1) (es.flatMap cfC++cfC (x,lk))) (o:Obj) (hg:(w2.alloc o).grownBy w3 v.ownBlock) (hvg:v.ownBlock=some g∨g=w2.heap.size+1):
  CmJ b w S A n c l N k0 d R M (.slice (some ⟨g,0,none⟩) (es.length+1) cap) w3 (es++[(x,lk)]) (cmdG l (blockF l (cmdsD l M)) d k).at (cmdG l (blockF l (cmdsD l M)) d k).err:=by
 have hf:=h.fuel rfl;have hlen:=h.row.cx.rd.len;have hin:=cmdG_in (blockF_in (cmdsD_in M)) (d:=d) hk1.1;refine⟨?_,?_,fun h0=>?_,by have:=h.le;omega⟩
 ·refine((h.row.call monoC hs fun _=>rfl).box monoC o).push monoC (x:=(x,lk)) (fun h0=>?_) hr hg (by simpa using hvg)
  have hown:=h.row.own
  exact((hk h0).of (w':=w2.alloc o) (fun p hp=>World.cell?_of_block (((Below.refl w2.heap.size w2).alloc (Nat.le_refl _) o).block _ (by have:=hs.1.size;have:=h.row.cx.lt;have:=h.row.cx.gr.size;rcases hp with hp | hp <;> omega))) fun _ h=>h).of (fun _ _=>rfl) fun q hq=>
   OwX.of_new (g:=v.ownBlock) h.row.cx.gr.size (fun q hq=>(hown q hq).2) q (NwX.wide (Nat.le_refl _) (by simp) q hq)
 ·rw[h.eq,gate_ok,cmdsD_more hk1,Rz.then_assoc]
  refine(then_known (g:=fun i=>(cmdsD l M d i).then fun cs m=> .ok ((es++[(x,lk)]).map (·.1)++cs) m) fun y j hy=>?_).trans (gate_seq _ _ _ _);rw[hv y j hy,Rz.then_assoc];simp only[List.map_append,List.map_cons,List.map_nil,List.append_assoc,List.singleton_append]
  rfl
 ·obtain⟨y,j,hq⟩:=ok_of_err h0
  have h1:=within_eq hin hq;rw[hq];show n<j+M∧k0≤j∧d≤16∧(es++[(x,lk)]).length≤j;simp;omega
end
theorem dcmds_step (b:Nat) (S:ByteArray) (A:Option Addr) (n c:Nat) (l:List Tok) (N k0:Nat) (hN:n<k0+N) (IH:∀ M,M<N→∀ k1,n<k1+M→RecD b S A n c l (cmdsD l M) k1):RecD b S A n c l (cmdsD l N) k0:=by
 intro d k o w hk hd h;have hn:=h.few;obtain⟨R,hR⟩:∃ R,R=gate o k (cmdsD l N d):=⟨_,rfl⟩;rw[←hR]
 have HS:Hid (CmJ b w S A n c l N k0 d R N (.slice none 0 0) w [] k o):=Lib.hid ⟨RoH.start h,by
  rw[hR]
  cases gate o k (cmdsD l N d) <;> rfl,fun h0=>by have:=hk h0;simp;omega,Nat.le_refl _⟩
 have KQ:Hid (∀ k' v,isT l 4 [125] k'=v→IsC b S A n c l 4 ⟨#[125]⟩ k' 0 v):=Lib.hid fun k' v hv=>isC b S A n c l 4 (by decide) ⟨#[125]⟩ k' 0 hv
 have KC:Hid (∀ M k',M+1≤N→n<k'+(M+1)→d≤16→k'<l.length→CmdDC b S A n c l d k' (cmdG l (blockF l (cmdsD l M)) d k')):=Lib.hid fun M k' h1 h2 h3 h4=>Lib.hid fun w' h'=>
  dcmd_any (blockF_in (cmdsD_in M)) (dblock_any b S A n c l (cmdsD l M) (k'+1) (IH M (by omega) (k'+1) (by omega))) d k' w' h3 (Nat.le_refl _) h4 h'
 obtain⟨i0,hi0,hz0,hz1,hz2⟩:=info_parts infoC;have hlen:=h.len;have HLN:=Lib.hid hlen.1;clear hR hk hN IH h hlen;unfold RowD;go_enter Tryz.func24,Tryz.ntmps24;go_wp2
 go_loopg [5] N (fun M v wr=>∃ (es:List XC) (k' o' M':Nat),Hid (M=M')∧Hid (CmJ b w S A n c l N k0 d R M' v wr es k' o'))
 case atStart=>exact⟨_,_,_,_,Lib.hid rfl,HS⟩
 case round=>
  obtain⟨es,k',o',M',HMM,HJ⟩:=hrel;have hbl:=HJ.out.row.cx.rd.lt;obtain⟨d1,d4⟩:=HJ.out.row.cx.rd.c14;by_cases o0:o'=0
  ·subst o0
   have d2:=HJ.out.row.cx.rd.at0;have hf:=HJ.out.fuel rfl;have hk'n:=HJ.out.row.cx.rd.le;by_cases hkn:k'<n
   ·have hkI:(k':Int)<n:=by omega
    have hkL:k'<l.length:=by have:=HLN.out;omega
    have p1:=bw_cell d1;have p2:=bw_cell d2;have p4:=bw_cell d4;have hne:=bw_some wr;have HRD:=Lib.hid HJ.out.row.cx.rd
    cases hv:isT l 4 [125] k' with
    | true=>
      have KT:=KQ.out k' _ hv;have HSTP:Hid (¬ (k'<l.length∧¬ isT l 4 [125] k'=true)):=Lib.hid fun e=>e.2 hv
      clear hv hf hkL d1 d2 d4;go_wp2;refine wp_region_below (by kernel_rfl) (by kernel_rfl) ?_
      repeat (go_big_quiet_step (first | (go_at_call 41;with_reducible exact isBw KT HRD.out _) | fail))
      refine wpQuiet_nil ?_;intro w5 hw5;obtain⟨m5,rfl⟩:=hw5;have HB5:Hid (Below wr.heap.size wr m5.at):=Lib.hid m5.2;clear p1 p2 p4;go_wp2;go_ret;exact HJ.out.stop (fun _=>HSTP.out) HB5.out
    | false=>
      obtain⟨M2,rfl⟩:∃ M2,M'=M2+1:=⟨M' - 1,by omega⟩;have KT:=KQ.out k' _ hv;have K3:=KC.out M2 k' HJ.out.le hf.1 hf.2.2.1 hkL;have HGO:Hid (k'<l.length∧¬ isT l 4 [125] k'=true):=Lib.hid ⟨hkL,by rw[hv];decide⟩;have HEL:Hid (es.length≤4000):=Lib.hid (by omega);clear hv hf hkL d1 d2 d4;go_wp2;refine wp_region_below (by kernel_rfl) (by kernel_rfl) ?_
      repeat (go_big_quiet_step (first | (go_at_call 41;with_reducible exact isBw KT HRD.out _) | fail))
      refine wpQuiet_nil ?_;intro w5 hw5;obtain⟨m5,rfl⟩:=hw5;have HJ3:Hid (CmJ b w S A n c l N k0 d R (M2+1) _ m5.at es k' 0):=Lib.hid (HJ.out.step m5.2);clear p1 p2 p4;go_wp2_with (first | (go_at_call 42;go_must (((with_reducible refine(K3.out _ HJ3.out.row.cx.rd).mono ?_));rintro e w4 ⟨x,lk,rfl,hs4,hv4,hk4⟩;have HRW:=Lib.hid ((HJ3.out.row.call monoC hs4 fun _=>rfl).box monoC (.cells #[.int .i64 x.kind,.string ⟨x.name.toArray⟩,.int .i64 x.n,.slice lk.p x.parts.length lk.cp,.int .i64 x.cond.kind,.int .i64 x.cond.n,.string ⟨x.cond.name.toArray⟩,.string ⟨x.cond.op.toArray⟩,.slice lk.x x.cond.kids.length lk.cx,.slice lk.b x.body.length lk.cb,.slice lk.e x.els.length lk.ce,.slice lk.u x.rules.length lk.cu,.int .i64 x.pl] 67));have HS4:=Lib.hid hs4;have HV4:=Lib.hid hv4;have HK4:=Lib.hid hk4;clear hs4 hv4 hk4)) | (at_builtin;refine wpList_append_lies _ rfl (.tmp 28) (.tmp 32) 22 rfl w.heap.size 67 i0 (.agg #[.int .i64 0,.string ⟨#[]⟩,.int .i64 0,.slice none 0 0,.int .i64 0,.int .i64 0,.string ⟨#[]⟩,.string ⟨#[]⟩,.slice none 0 0,.slice none 0 0,.slice none 0 0,.slice none 0 0,.int .i64 0]) 13 208 Tryz.underlying22 hi0 hz0 hz1 hz2 rfl (by decide) _ es.length (es.flatMap cfC) rfl HRW.out.row ⟨w4.heap.size,0,none⟩ 1 1 [.int .i64 x.kind,.string ⟨x.name.toArray⟩,.int .i64 x.n,.slice lk.p x.parts.length lk.cp,.int .i64 x.cond.kind,.int .i64 x.cond.n,.string ⟨x.cond.name.toArray⟩,.string ⟨x.cond.op.toArray⟩,.slice lk.x x.cond.kids.length lk.cx,.slice lk.b x.body.length lk.cb,.slice lk.e x.els.length lk.ce,.slice lk.u x.rules.length lk.cu,.int .i64 x.pl] rfl rfl (fun j u hu=>new_cells w4 67 #[.int .i64 x.kind,.string ⟨x.name.toArray⟩,.int .i64 x.n,.slice lk.p x.parts.length lk.cp,.int .i64 x.cond.kind,.int .i64 x.cond.n,.string ⟨x.cond.name.toArray⟩,.string ⟨x.cond.op.toArray⟩,.slice lk.x x.cond.kids.length lk.cx,.slice lk.b x.body.length lk.cb,.slice lk.e x.els.length lk.ce,.slice lk.u x.rules.length lk.cu,.int .i64 x.pl] j u hu) (oneC (x,lk)) (by decide) (by have:=HEL.out;unfold maxLen;omega) (by have:=HEL.out;omega) HRW.out.cx.gr.size (w4.heap.size+1) (by simp) ?_;intro g cap w5 ho hg hvg hgl;have HN:=Lib.hid (HJ3.out.more HGO.out HS4.out HV4.out HK4.out ho _ hg hvg);clear ho hg hvg hgl))
      go_roundg M2
      case measure=>rw[HMM.out];exact Nat.lt_succ_self _
      case rel=>exact⟨_,_,_,_,Lib.hid rfl,HN⟩
   ·have hkI:¬ (k':Int)<n:=by omega
    have HSTP:Hid (¬ (k'<l.length∧¬ isT l 4 [125] k'=true)):=Lib.hid fun e=>by have:=HLN.out;omega
    clear hf;go_wp2;go_quiet (fail);go_wp2;go_ret;exact HJ.out.stop (fun _=>HSTP.out) (below_drewN (Below.refl _ _) _)
  ·obtain⟨b1,b2,b3,b4⟩:=neq0_f o0
   have O0:=Lib.hid o0;clear o0;go_wp2;go_quiet (fail);go_wp2;go_ret;exact HJ.out.stop (fun e=>absurd e O0.out) (below_drewN (Below.refl _ _) _)
theorem dcmds_all (b:Nat) (S:ByteArray) (A:Option Addr) (n c:Nat) (l:List Tok):∀ N k0,n<k0+N→RecD b S A n c l (cmdsD l N) k0:=by
 intro N
 induction N using Nat.strongRecOn with
 | ind N ih=>exact fun k0 h=>dcmds_step b S A n c l N k0 h ih
end
theorem DocS.plx {b:Nat} {w:World} {S:ByteArray} {A:Option Addr} {n c:Nat} {l:List Tok} {k o:Nat} (h:DocS b w S A n c l k o) (ho:o≠0):w.cell? ⟨b,3,none⟩=some (.int .i64 (plD l S k)):=by
 obtain⟨a,p,_,h3,_,_,h6⟩:=h.ex;rw[h6 ho] at h3;exact h3
abbrev readC (s:ByteArray) (A:Option Addr) (n c:Nat):Obj:= .cells #[.string s,.slice A n c,.int .i64 0,.int .i64 0,.int .i64 0] 76
theorem docs_new {w:World} {s:ByteArray} {A:Option Addr} {n c:Nat} {l:List Tok} (h:RdT w.heap.size w A n l) (hf:FitL l) (hn:l.length≤250):DocS w.heap.size (w.alloc (readC s A n c)) s A n c l 0 0:=by
 have hb:Below w.heap.size w (w.alloc (readC s A n c)):=(Below.refl _ _).alloc (Nat.le_refl _) _;exact⟨new_at _ _ _ 0 _ rfl,new_at _ _ _ 1 _ rfl,⟨0,0,new_at _ _ _ 2 _ rfl,new_at _ _ _ 3 _ rfl,Nat.zero_le _,fun _=>⟨rfl,rfl⟩,fun e=>absurd rfl e⟩,new_at _ _ _ 4 _ rfl,by simp[go_sem],by simp[go_sem],by simp[go_sem],h.keep hb,hf,Nat.zero_le _,.inl rfl,by rw[h.1];omega⟩
theorem dparse_bad (s:ByteArray) (q:Nat) (e:Int) (he:e=1∨e=2∨e=3) (w:World) (K:Hid (Calls Tryz.prog 23 #[.string s] w (ReadT w [] q e))):Calls Tryz.prog 11 #[.string s] w (ParP w ([],q,e)):=by
 have b1:(e != 0)=true:=by rcases he with rfl | rfl | rfl <;> rfl
 unfold ReadT at K;clear he;go_enter Tryz.func11,Tryz.ntmps11;go_wp2_with (go_at_call 23;go_must (((with_reducible refine(K.out).mono ?_));rintro e w1 ⟨A1,c1,rfl,hr1,hb1⟩;have HB:=Lib.hid hb1;clear hb1 hr1))
 go_ret3
 exact⟨none,0,rfl,HB.out,.inl rfl⟩
theorem dparse_ok (s:ByteArray) (ts:List Tok) (hf:FitL ts) (hts:ts.length≤250) (w:World) (K:Hid (Calls Tryz.prog 23 #[.string s] w (ReadT w ts 0 0))):Calls Tryz.prog 11 #[.string s] w (ParP w (ansS ts s.size)):=by
 have K2:Hid (∀ b A c w',DocS b w' s A ts.length c ts 0 0→Calls Tryz.prog 24 #[.pointer (some ⟨b,0,none⟩),.int .i64 0] w' (RowD b w' s A ts.length c ts (cmdsD ts (ts.length+1) 0 0))):=Lib.hid fun b A c w' h'=>
  dcmds_all b s A ts.length c ts (ts.length+1) 0 (by omega) 0 0 0 w' (fun _=>⟨Nat.le_refl _,by omega⟩) (by omega) h'
 have HF:=Lib.hid hf;have HT:=Lib.hid hts;obtain⟨R,hR⟩:∃ R,R=cmdsD ts (ts.length+1) 0 0:=⟨_,rfl⟩;have hA:allF ts=R.then fun x j=>if j<ts.length then .bad j false else .ok x j:=by rw[←allD_eq,hR];rfl
 have hin:R.at≤ts.length:=by rw[hR];exact(cmdsD_in (l:=ts) (ts.length+1) 0 0 (Nat.zero_le _)).at_le
 rw[←hR] at K2;clear hR hf hts;unfold ReadT at K;unfold RowD at K2;obtain⟨n,hn⟩:∃ n,n=ts.length:=⟨_,rfl⟩;rw[←hn] at K K2;have HN:=Lib.hid hn;have hn2:n≤250:=by rw[hn];exact HT.out
 have bad:∀ j d,allF ts= .bad j d→ansS ts s.size=([],plD ts s j,if d then 8 else 1):=fun j d e=>by unfold ansS;rw[e];rfl
 by_cases h0:R.err=0
 ·obtain⟨xs0,j0,hx⟩:=ok_of_err h0
  subst hx;have hj:j0≤n:=by rw[hn];exact hin
  by_cases h1:j0<n
  ·have hans:=bad j0 false (hA.trans (if_pos (by rw[←hn];exact h1)))
   rw[hans];have KR:Hid (∀ b A c,FaiC b s A n c ts j0 1 j0 0 j0 1):=Lib.hid fun b A c=>faiC (z:=1) b s A n c ts j0 1 j0 0 (.inl rfl) hj rfl (if_pos rfl) (if_pos rfl)
   have hji:(j0:Int)<n:=by omega
   have hj2:j0≤250:=by omega
   clear hans bad hA hin hn h0 hj;go_enter Tryz.func11,Tryz.ntmps11
   go_wp2_with (first
    | (go_at_call 23;go_must (((with_reducible refine(K.out).mono ?_));rintro e w1 ⟨A1,c1,rfl,hr1,hb1⟩;have HS:=Lib.hid (docs_new (s:=s) (c:=c1) (by rw[HN.out] at hr1;rw[HN.out];exact hr1) HF.out HT.out:DocS w1.heap.size (w1.alloc (readC s A1 n c1)) s A1 n c1 ts 0 0);have HB:=Lib.hid hb1;clear hb1 hr1))
    | (go_at_call 24;go_must (((with_reducible refine(K2.out _ _ _ _ HS.out).mono ?_));rintro e w2 ⟨A2,xs,c2,rfl,hs2,_,_⟩;have HC:Hid (Cy w1.heap.size (w1.alloc (readC s A1 n c1)) w2 s A1 n c1 ts j0 0 []):=Lib.hid ((Cy.start HS.out).call hs2);have hb9:=HC.out.rd.lt;obtain⟨d1,d2,d4,_⟩:=HC.out.rd.four0;clear hs2))
    | (go_at_call 25;go_must (((with_reducible refine((KR.out _ _ _).out _ HC.out.rd).mono ?_));rintro e w3 ⟨rfl,hs3⟩;have HD:=Lib.hid (HC.out.call hs3);have hb8:=HD.out.rd.lt;have y3:=HD.out.rd.plx (by decide);have y4:=HD.out.rd.c4;clear hs3)))
   go_quiet (fail);go_wp2
   go_ret3
   exact⟨none,0,rfl,HB.out.trans (((one_boxX w1 _).trans (HD.out.low.trans (below_drewN (Below.refl _ _) _))).mono HB.out.size),.inl rfl⟩
  ·have hans:ansS ts s.size=(xs0,0,0):=by
    have e:allF ts= .ok xs0 j0:=hA.trans (if_neg (by rw[←hn];exact h1));unfold ansS;rw[e]
   rw[hans];obtain rfl:j0=n:=by omega
   clear hans bad hA hin hn h0 hj h1;go_enter Tryz.func11,Tryz.ntmps11
   go_wp2_with (first
    | (go_at_call 23;go_must (((with_reducible refine(K.out).mono ?_));rintro e w1 ⟨A1,c1,rfl,hr1,hb1⟩;have HS:=Lib.hid (docs_new (s:=s) (c:=c1) (by rw[HN.out] at hr1;rw[HN.out];exact hr1) HF.out HT.out:DocS w1.heap.size (w1.alloc (readC s A1 j0 c1)) s A1 j0 c1 ts 0 0);have HB:=Lib.hid hb1;clear hb1 hr1))
    | (go_at_call 24;go_must (((with_reducible refine(K2.out _ _ _ _ HS.out).mono ?_));rintro e w2 ⟨A2,xs,c2,rfl,hs2,hv2,hr2⟩;have HC:Hid (Cy w1.heap.size (w1.alloc (readC s A1 j0 c1)) w2 s A1 j0 c1 ts j0 0 []):=Lib.hid ((Cy.start HS.out).call hs2);have HV2:=Lib.hid hv2;have HR2:=Lib.hid hr2;have hb9:=HC.out.rd.lt;obtain⟨d1,d2,d4,_⟩:=HC.out.rd.four0;clear hs2 hv2 hr2)))
   go_ret3
   have hv:=HV2.out xs0 j0 rfl;subst hv
   exact⟨A2,c2,rfl,HB.out.trans (((one_boxX w1 _).trans HC.out.low).mono HB.out.size),(HR2.out rfl).of (fun _ _=>rfl) fun q hq=>by
    have:=HC.out.gr.size;have:=HC.out.lt;show q<w2.heap.size
    rcases hq with hq | hq <;> omega⟩
 ·have e:∃ d,allF ts= .bad R.at d∧(R.err:Int)=if d then 8 else 1:=by
   cases R with
   | ok x j=>exact absurd rfl h0
   | bad j d=>exact⟨d,hA,by cases d <;> rfl⟩
  obtain⟨d,e,e2⟩:=e;have hans:=bad R.at d e;rw[hans,←e2];obtain⟨b1,b2,b3,b4⟩:=neq0_f h0;have H0:=Lib.hid h0;clear hans bad hA hin hn h0 e e2;go_enter Tryz.func11,Tryz.ntmps11
  go_wp2_with (first
   | (go_at_call 23;go_must (((with_reducible refine(K.out).mono ?_));rintro e w1 ⟨A1,c1,rfl,hr1,hb1⟩;have HS:=Lib.hid (docs_new (s:=s) (c:=c1) (by rw[HN.out] at hr1;rw[HN.out];exact hr1) HF.out HT.out:DocS w1.heap.size (w1.alloc (readC s A1 n c1)) s A1 n c1 ts 0 0);have HB:=Lib.hid hb1;clear hb1 hr1))
   | (go_at_call 24;go_must (((with_reducible refine(K2.out _ _ _ _ HS.out).mono ?_));rintro e w2 ⟨A2,xs,c2,rfl,hs2,_,_⟩;have HC:=Lib.hid ((Cy.start HS.out).call hs2);have hb9:=HC.out.rd.lt;have y3:=HC.out.rd.plx H0.out;have d4:=HC.out.rd.c4;clear hs2)))
  go_quiet (fail);go_wp2
  go_ret3
  exact⟨none,0,rfl,HB.out.trans (((one_boxX w1 _).trans (HC.out.low.trans (below_drewN (Below.refl _ _) _))).mono HB.out.size),.inl rfl⟩
theorem dparse_any (s:ByteArray) (hs:s.size≤250) (w:World):Calls Tryz.prog 11 #[.string s] w (ParP w (parS s.data.toList)):=by
 rcases scan_fitS s hs with ⟨q,e,h,he⟩ | ⟨ts,h,hf,hl⟩
 ·have e1:parS s.data.toList=([],(q:Int),e):=by unfold parS;rw[h]
  rw[e1];exact dparse_bad s q e he w (Lib.hid (rscan_read s (by omega) none q e [] rfl h w))
 ·have e1:parS s.data.toList=ansS ts s.size:=by unfold parS;rw[h];show ansS ts s.data.toList.length=_;rw[len_data]
  rw[e1];exact dparse_ok s ts hf hl w (Lib.hid (rscan_read s (by omega) (some ts) 0 0 ts rfl h w))
end Go.Proofs.YtfgcdppebeojbaaGreatDoor
