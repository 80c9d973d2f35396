import Derived.Test.YtdobinjbejagcaaGreatDoorRc4
import Derived.Deep.RegionHeld3
import Derived.Deep.CutBlock
namespace Go.Proofs.YtdobinjbejagcaaGreatDoor
open Go Go.RowKit
set_option maxRecDepth 100000
set_option maxHeartbeats 4000000
section
def RsV {α:Type} (R:Rp α) (x:α):Prop:=∀ y j s g,R= .ok y j s g→y=x
section
variable {α β:Type} {o k:Nat}
theorem gate_then (R:Rp α) (F:α→Nat→Rp β):gateR o k (R.then F)=(gateR o k R).then F:=by
 unfold gateR
 split <;> rfl
theorem seq_at {R1:Rp α} {R2:Rp β} {F:α→Nat→Rp β} {x:α} (hx:RsV R1 x) (h2:R2=gateR R1.err R1.at (F x R1.at)):(R1.then F).at=R2.at∧(R1.then F).err=R2.err∧(R2.err=0→(R1.then F).sfs=R1.sfs++R2.sfs)∧∀ z,RsV R2 z→RsV (R1.then F) z:=by
 subst h2
 cases R1 with
 | bad j=>exact⟨rfl,rfl,fun h=>(by cases h),fun z _ y m s g e=>(by cases e)⟩
 | ok y j s g=>
   obtain rfl:=hx _ _ _ _ rfl;show (Rp.then (.ok y j s g) F).at=(F y j).at∧(Rp.then (.ok y j s g) F).err=(F y j).err∧((F y j).err=0→(Rp.then (.ok y j s g) F).sfs=s++(F y j).sfs)∧∀ z,RsV (F y j) z→RsV (Rp.then (.ok y j s g) F) z;unfold Rp.then
   simp only
   cases hF:F y j with
   | bad m=>exact⟨rfl,rfl,fun h=>(by cases h),fun z _ y m s g e=>(by cases e)⟩
   | ok u m s2 g2=>exact⟨rfl,rfl,fun _=>rfl,fun z hz y' m' s' g' e=>by injection e with e;rw[←e];exact hz _ _ _ _ rfl⟩
theorem err_any (R:Rp α):R.err=0∨R.err=1:=by
 cases R with
 | ok x j s g=>exact .inl rfl
 | bad j=>exact .inr rfl
end
def demP (v:Bool) (er:Int) (k:Nat):Rp Unit:= .ok () k (if v then [] else [(k,er)]) []
def takB (l:List Tok) (kd:Int) (w:Bs) (k:Nat):Rp Bool:=if isP l kd w k then .ok true (k+1) [] [] else .ok false k [] []
section
variable {b:Nat} {w w':World} {A:Option Addr} {n c:Nat} {l:List Tok} {vN:Value} {ns:List Bs} {k o:Nat} {sf:Sf} {ms:List Bs} {vM:Value}
theorem seq_rd {α β:Type} {R1:Rp α} {R2:Rp β} {F:α→Nat→Rp β} {x:α} (hx:RsV R1 x) (h2:R2=gateR R1.err R1.at (F x R1.at)) (h:RdC b w A n c l vN ns R2.at R2.err ((sf++R1.sfs)++R2.sfs) ms vM):RdC b w A n c l vN ns (R1.then F).at (R1.then F).err (sf++(R1.then F).sfs) ms vM:=by
 obtain⟨e1,e2,e3,_⟩:=seq_at hx h2;rw[e1,e2];exact h.noting _ fun h0=>by rw[e3 h0,List.append_assoc]
theorem seq_step {α β:Type} {R1:Rp α} {R2:Rp β} {F:α→Nat→Rp β} {x:α} (hx:RsV R1 x) (h2:R2=gateR R1.err R1.at (F x R1.at)) (h:StepC b w A n c l vN ns R2.at R2.err ((sf++R1.sfs)++R2.sfs) ms vM w'):StepC b w A n c l vN ns (R1.then F).at (R1.then F).err (sf++(R1.then F).sfs) ms vM w':=⟨h.1,seq_rd hx h2 h.2⟩
theorem RdC.nil (h:RdC b w A n c l vN ns k o sf ms vM):RdC b w A n c l vN ns k o (sf++[]) ms vM:=by rw[List.append_nil];exact h
end
section
variable (b:Nat) (A:Option Addr) (n c:Nat) (l:List Tok) (vN:Value) (ns:List Bs) (ms:List Bs) (vM:Value)
abbrev DemR (v:Bool) (er:Int) (k o:Nat) (sf:Sf) (R:Rp Unit):Prop:=Hid (∀ w',RdC b w' A n c l vN ns k o sf ms vM→Calls Tryz.prog 59 #[.pointer (some ⟨b,0,none⟩),.bool v,.int .i64 er] w' fun e w2=>e= .returned (.tuple #[])∧StepC b w' A n c l vN ns R.at R.err (sf++R.sfs) ms vM w2)
theorem demR (v:Bool) (er:Int) (her:er≠0) (k o:Nat) (sf:Sf):DemR b A n c l vN ns ms vM v er k o sf (gateR o k (demP v er k)):=Lib.hid fun w' h=>by
 have ho:=h.oks;refine(cdemand_any v er her h).mono fun e w2 ⟨h1,h2,h3⟩=>⟨h1,h2,?_⟩
 rcases ho with rfl | rfl
 ·exact h3
 ·exact h3.noting _ (by omega)
abbrev TakR (kd:Int) (W:ByteArray) (k o:Nat) (sf:Sf) (v:Bool) (R:Rp Bool):Prop:=Hid (∀ w',RdC b w' A n c l vN ns k o sf ms vM→Calls Tryz.prog 91 #[.pointer (some ⟨b,0,none⟩),.int .i64 kd,.string W] w' fun e w2=>e= .returned (.bool v)∧StepC b w' A n c l vN ns R.at R.err (sf++R.sfs) ms vM w2)
theorem takR (kd:Int) (hkd:kd≠0) (W:ByteArray) (k o:Nat) (sf:Sf) {v:Bool} (hv:isOp l kd W.data.toList k o=v):TakR b A n c l vN ns ms vM kd W k o sf v (gateR o k (takB l kd W.data.toList k)):=Lib.hid fun w' h=>by
 subst hv;have ho:=h.oks;refine(ctake_any kd hkd W h).mono fun e w2 ⟨h1,h2,h3⟩=>⟨h1,h2,?_⟩
 rcases ho with rfl | rfl
 ·rw[isOp_zero] at h3
  show RdC b w2 A n c l vN ns (takB l kd W.data.toList k).at (takB l kd W.data.toList k).err (sf++(takB l kd W.data.toList k).sfs) ms vM;unfold takB
  split
  ·rename_i c;rw[if_pos c] at h3;exact h3.nil
  ·rename_i c;rw[if_neg c] at h3;exact h3.nil
 ·rw[isOp_bad _ _ _ _ (by decide)] at h3
  exact h3.nil
theorem take_res {kd:Int} {W:Bs} {k o:Nat}:RsV (gateR o k (takB l kd W k)) (isOp l kd W k o):=by
 intro y j s g e;unfold gateR at e
 split at e
 ·rename_i ho
  subst ho;rw[isOp_zero];unfold takB at e
  split at e
  ·rename_i h;injection e with e;rw[←e,h]
  ·rename_i h;injection e with e;rw[←e];exact(Bool.eq_false_iff.2 h).symm
 ·cases e
abbrev NeeR (kd:Int) (W:ByteArray) (k o:Nat) (sf:Sf) (R:Rp Unit):Prop:=Hid (∀ w',RdC b w' A n c l vN ns k o sf ms vM→Calls Tryz.prog 58 #[.pointer (some ⟨b,0,none⟩),.int .i64 kd,.string W] w' fun e w2=>e= .returned (.tuple #[])∧StepC b w' A n c l vN ns R.at R.err (sf++R.sfs) ms vM w2)
theorem neeR (kd:Int) (hkd:kd≠0) (W:ByteArray) (k o:Nat) (sf:Sf):NeeR b A n c l vN ns ms vM kd W k o sf (gateR o k (needP l kd W.data.toList k)):=Lib.hid fun w' h=>by
 refine(cneed_any kd hkd W h).mono fun e w2 ⟨h1,h2,h3⟩=>⟨h1,h2,?_⟩
 have e0:(gateR o k (needP l kd W.data.toList k)).sfs=[]:=by
  unfold gateR needP
  split
  ·split <;> rfl
  ·rfl
 rw[e0];exact h3.nil
theorem unit_res {R:Rp Unit}:RsV R ():=fun _ _ _ _ _=>rfl
abbrev KinR (kd:Int) (k o:Nat) (sf:Sf) (R:Rp Tok):Prop:=Hid (∀ w',RdC b w' A n c l vN ns k o sf ms vM→Calls Tryz.prog 61 #[.pointer (some ⟨b,0,none⟩),.int .i64 kd] w' fun e w2=>∃ t A' c',e= .returned (.agg #[.int .i64 t.kind,.string ⟨t.word.toArray⟩,.int .i64 t.n,.slice A' t.parts.length c',.int .i64 t.pl])∧StepC b w' A n c l vN ns R.at R.err (sf++R.sfs) ms vM w2∧RsV R t)
theorem kinR (kd:Int) (hkd:kd≠0) (k o:Nat) (sf:Sf):KinR b A n c l vN ns ms vM kd k o sf (gateR o k (takeP l kd k)):=Lib.hid fun w' h=>by
 refine(cneedkind_any kd hkd h).mono fun e w2 ⟨t,A',c',h1,⟨h2,h3⟩,h4⟩=>⟨t,A',c',h1,⟨h2,?_⟩,h4⟩
 have e0:(gateR o k (takeP l kd k)).sfs=[]:=by
  unfold gateR takeP
  split
  ·split <;> rfl
  ·rfl
 rw[e0];exact h3.nil
abbrev NamR' (k o:Nat) (sf:Sf) (R:Rp Bs):Prop:=Hid (∀ w',RdC b w' A n c l vN ns k o sf ms vM→Calls Tryz.prog 94 #[.pointer (some ⟨b,0,none⟩)] w' fun e w2=>∃ s:Bs,e= .returned (.string ⟨s.toArray⟩)∧StepC b w' A n c l vN ns R.at R.err (sf++R.sfs) ms vM w2∧RsV R s)
theorem namR (k o:Nat) (sf:Sf):NamR' b A n c l vN ns ms vM k o sf (gateR o k (nameP l k)):=Lib.hid fun w' h=>by
 refine(cname_any h).mono fun e w2 ⟨t,h1,⟨h2,h3⟩,h4⟩=>⟨t,h1,⟨h2,?_⟩,h4⟩
 have e0:(gateR o k (nameP l k)).sfs=[]:=by
  unfold gateR nameP
  split
  ·split <;> rfl
  ·rfl
 rw[e0];exact h3.nil
abbrev PlaR (k o:Nat) (sf:Sf) (R:Rp Bs):Prop:=Hid (∀ w',RdC b w' A n c l vN ns k o sf ms vM→Calls Tryz.prog 140 #[.pointer (some ⟨b,0,none⟩)] w' fun e w2=>∃ s:Bs,e= .returned (.string ⟨s.toArray⟩)∧StepC b w' A n c l vN ns R.at R.err (sf++R.sfs) ms vM w2∧RsV R s)
theorem plaR (k o:Nat) (sf:Sf):PlaR b A n c l vN ns ms vM k o sf (gateR o k (textP l k)):=Lib.hid fun w' h=>by
 refine(cplain_any h).mono fun e w2 ⟨t,h1,⟨h2,h3⟩,h4⟩=>⟨t,h1,⟨h2,?_⟩,h4⟩
 have e0:(gateR o k (textP l k)).sfs=[]:=by
  unfold gateR textP
  split
  ·split
   ·split <;> rfl
   ·rfl
  ·rfl
 rw[e0];exact h3.nil
abbrev NexR (k o:Nat) (sf:Sf) (t:Tok):Prop:=Hid (∀ w',RdC b w' A n c l vN ns k o sf ms vM→Calls Tryz.prog 60 #[.pointer (some ⟨b,0,none⟩)] w' fun e w2=>
 ∃ A' c',e= .returned (.agg #[.int .i64 t.kind,.string ⟨t.word.toArray⟩,.int .i64 t.n,.slice A' t.parts.length c',.int .i64 t.pl])∧Below w'.heap.size w' w2∧Rd b w' A' t.parts.length t.parts)
theorem nexR (k o:Nat) (sf:Sf):NexR b A n c l vN ns ms vM k o sf (nxq l k o):=Lib.hid fun _ h=>cnext_any h
abbrev DelR (least:Int) (k o:Nat) (sf:Sf) (R:Rp Int):Prop:=Hid (∀ w',RdC b w' A n c l vN ns k o sf ms vM→Calls Tryz.prog 141 #[.pointer (some ⟨b,0,none⟩),.int .i64 least] w' fun e w2=>∃ z:Int,e= .returned (.int .i64 z)∧StepC b w' A n c l vN ns R.at R.err (sf++R.sfs) ms vM w2∧RsV R z)
end
section
variable {b:Nat} {w w':World} {A:Option Addr} {n c:Nat} {l:List Tok} {vN:Value} {ns:List Bs} {k o:Nat} {sf:Sf} {ms:List Bs} {vM:Value}
theorem dem_ok {α:Type} (v:Bool) (er:Int) (F:Unit→Nat→Rp α):(demP v er k).then F=Rp.met (!v) k er (F () k):=by
 unfold demP;rw[←ok_then]
 cases v <;> rfl
theorem cdel_parts (least:Int):cdel l least k=(demP (decide ((nxp l k).n≤9)) 2 k).then fun _ k=>(demP (decide (least≤(nxp l k).n)) 5 k).then fun _ k=>(takeP l 2 k).then fun t j=> .ok t.n j [] []:=by
 rw[dem_ok,dem_ok];unfold cdel takeP
 split
 ·show Rp.ok (nxp l k).n (k+1) ([]++((if 9<(nxp l k).n then [(k,2)] else [])++(if (nxp l k).n<least then [(k,5)] else []))) []=Rp.ok (nxp l k).n (k+1) ((if !decide ((nxp l k).n≤9) then [(k,2)] else [])++((if !decide (least≤(nxp l k).n) then [(k,5)] else [])++[])) []
  congr 1
  rw[List.nil_append,List.append_nil]
  congr 1
  ·by_cases h:(nxp l k).n≤9
   ·rw[if_neg (by omega),decide_eq_true h];rfl
   ·rw[if_pos (by omega),decide_eq_false h];rfl
  ·by_cases h:least≤(nxp l k).n
   ·rw[if_neg (by omega),decide_eq_true h];rfl
   ·rw[if_pos (by omega),decide_eq_false h];rfl
 ·rfl
theorem cdelay_any (least:Int) (h:RdC b w A n c l vN ns k o sf ms vM):
  Calls Tryz.prog 141 #[.pointer (some ⟨b,0,none⟩),.int .i64 least] w fun e w'=>∃ z:Int,e= .returned (.int .i64 z)∧StepC b w A n c l vN ns (gateR o k (cdel l least k)).at (gateR o k (cdel l least k)).err (sf++(gateR o k (cdel l least k)).sfs) ms vM w'∧RsV (gateR o k (cdel l least k)) z:=by
 have H:=Lib.hid (Cyc.start h);have K:=nexR b A n c l vN ns ms vM k o sf;have ho:=h.oks;obtain⟨R1,h1⟩:∃ R1,R1=gateR o k (demP (decide ((nxq l k o).n≤9)) 2 k):=⟨_,rfl⟩;have K1:=demR b A n c l vN ns ms vM (decide ((nxq l k o).n≤9)) 2 (by decide) k o sf;rw[←h1] at K1;obtain⟨R2,h2⟩:∃ R2,R2=gateR R1.err R1.at (demP (decide (least≤(nxq l k o).n)) 5 R1.at):=⟨_,rfl⟩;have K2:=demR b A n c l vN ns ms vM (decide (least≤(nxq l k o).n)) 5 (by decide) R1.at R1.err (sf++R1.sfs);rw[←h2] at K2;obtain⟨R3,h3⟩:∃ R3,R3=gateR R2.err R2.at (takeP l 2 R2.at):=⟨_,rfl⟩;have K3:=kinR b A n c l vN ns ms vM 2 (by decide) R2.at R2.err ((sf++R1.sfs)++R2.sfs);rw[←h3] at K3
 have hR:∀ (t:Tok) (W:World),RsV R3 t→StepC b w A n c l vN ns R3.at R3.err (((sf++R1.sfs)++R2.sfs)++R3.sfs) ms vM W→StepC b w A n c l vN ns (gateR o k (cdel l least k)).at (gateR o k (cdel l least k)).err (sf++(gateR o k (cdel l least k)).sfs) ms vM W∧RsV (gateR o k (cdel l least k)) t.n:=by
  intro t W ht hW
  have s3:=seq_step (F:=fun t j=>Rp.ok t.n j [] []) ht rfl (R2:=gateR R3.err R3.at (Rp.ok t.n R3.at [] [])) (by
   rcases err_any R3 with e | e
   ·rw[e];exact⟨hW.1,by rw[e] at hW;exact hW.2.nil⟩
   ·rw[e];exact⟨hW.1,by rw[e] at hW;exact hW.2.nil⟩)
  have r3:=(seq_at (F:=fun (t:Tok) j=>Rp.ok t.n j [] []) ht rfl).2.2.2 t.n (fun y j s g e=>by
   unfold gateR at e
   split at e
   ·injection e with e;exact e.symm
   ·cases e)
  have g3:R3.then (fun t j=>Rp.ok t.n j [] [])=gateR R2.err R2.at ((takeP l 2 R2.at).then fun t j=>Rp.ok t.n j [] []):=by rw[gate_then,←h3]
  have s2:=seq_step (F:=fun _ k=>(takeP l 2 k).then fun t j=>Rp.ok t.n j [] []) (x:=()) unit_res g3 s3;have r2:=(seq_at (F:=fun _ k=>(takeP l 2 k).then fun t j=>Rp.ok t.n j [] []) (x:=()) unit_res g3).2.2.2 t.n r3;have g2:R2.then (fun _ k=>(takeP l 2 k).then fun t j=>Rp.ok t.n j [] [])=gateR R1.err R1.at ((demP (decide (least≤(nxq l k o).n)) 5 R1.at).then fun _ k=>(takeP l 2 k).then fun t j=>Rp.ok t.n j [] []):=by rw[gate_then,←h2]
  have s1:=seq_step (F:=fun _ k'=>(demP (decide (least≤(nxq l k o).n)) 5 k').then fun _ k=>(takeP l 2 k).then fun t j=>Rp.ok t.n j [] []) (x:=()) unit_res g2 s2;have r1:=(seq_at (F:=fun _ k'=>(demP (decide (least≤(nxq l k o).n)) 5 k').then fun _ k=>(takeP l 2 k).then fun t j=>Rp.ok t.n j [] []) (x:=()) unit_res g2).2.2.2 t.n r2
  have g1:R1.then (fun _ k'=>(demP (decide (least≤(nxq l k o).n)) 5 k').then fun _ k=>(takeP l 2 k).then fun t j=>Rp.ok t.n j [] [])=gateR o k (cdel l least k):=by
   rw[h1,←gate_then];unfold gateR
   split
   ·rename_i ho
    rw[cdel_parts,ho];rfl
   ·rfl
  rw[g1] at s1 r1;exact⟨s1,r1⟩
 have HR:=Lib.hid hR;have tf:=tkF2;clear hR h1 h2 h3 h ho;generalize gateR o k (cdel l least k)=R at HR ⊢;generalize nxq l k o=t at K K1 K2;go_enter Tryz.func141,Tryz.ntmps141
 go_wp2_with (first
  | (go_at_call 60;go_must (((with_reducible refine(K.out _ H.out.rd).mono ?_));rintro e w1 ⟨A1,c1,rfl,hb1, -⟩;have HA:=Lib.hid (H.out.below hb1);clear hb1))
  | (go_at_call 59;(((with_reducible refine(K1.out _ HA.out.rd).mono ?_));rintro e w2 ⟨rfl,hs⟩;have HB:=Lib.hid (HA.out.call hs);clear hs))
  | (go_at_call 59;(((with_reducible refine(K2.out _ HB.out.rd).mono ?_));rintro e w3 ⟨rfl,hs⟩;have HC:=Lib.hid (HB.out.call hs);clear hs))
  | (go_at_call 61;go_must (((with_reducible refine(K3.out _ HC.out.rd).mono ?_));rintro e w4 ⟨t3,A2,c2,rfl,hs,hv⟩;have HD:=Lib.hid (HC.out.call hs);have HV:=Lib.hid hv;clear hs hv)))
 go_ret;exact⟨t3.n,rfl,HR.out t3 _ HV.out HD.out.step⟩
end
theorem delR (b:Nat) (A:Option Addr) (n c:Nat) (l:List Tok) (vN:Value) (ns:List Bs) (ms:List Bs) (vM:Value) (least:Int) (k o:Nat) (sf:Sf):DelR b A n c l vN ns ms vM least k o sf (gateR o k (cdel l least k)):=Lib.hid fun _ h=>cdelay_any least h
end
section
def bytesOf (s:Bs):ByteArray:=⟨s.toArray⟩
theorem bytesOf_inj {a b:Bs} (h:bytesOf a=bytesOf b):a=b:=by
 unfold bytesOf at h;injection h with h
 exact(Array.mk.inj h)
theorem idx_from (x:Bs):∀ (ns:List Bs) (i:Nat),Lib.idxFromS (ns.map bytesOf) (bytesOf x) i=if x∈ns then ((i+ns.idxOf x:Nat):Int) else -1
 | [],i=>rfl
 | s::ns,i=>by
   rw[List.map_cons];unfold Lib.idxFromS;by_cases c:s=x
   ·subst c
    rw[if_pos rfl,if_pos (by simp)];simp
   ·rw[if_neg (fun e=>c (bytesOf_inj e)),idx_from x ns (i+1)]
    have c2:¬ x=s:=fun e=>c e.symm
    by_cases m:x∈ns
    ·rw[if_pos m,if_pos (by simp[m])]
     rw[List.idxOf_cons,show (s==x)=false from by simpa using c]
     congr 1
     simp;omega
    ·rw[if_neg m,if_neg (by simp[m,c2])]
theorem idx_list (ns:List Bs) (x:Bs):Lib.idxOfS (ns.map bytesOf) (bytesOf x)=idxP ns x:=by
 unfold Lib.idxOfS idxP;rw[idx_from];simp
theorem has_list (ns:List Bs) (x:Bs):Lib.containsS (ns.map bytesOf) (bytesOf x)=ns.contains x:=by
 unfold Lib.containsS;rw[idx_list];unfold idxP;by_cases m:x∈ns
 ·rw[if_pos m,decide_eq_true (by omega)];exact(List.contains_iff_mem.2 m).symm
 ·rw[if_neg m,decide_eq_false (by decide)]
  symm
  rw[Bool.eq_false_iff];exact fun e=>m (List.contains_iff_mem.1 e)
theorem getD_bytes {ns:List Bs} {j:Nat} (hj:j<ns.length):(ns.map bytesOf).getD j ByteArray.empty=bytesOf ns[j]:=by
 simp[List.getD,hj]
theorem cidx_any {b:Nat} {w0:World} {vN:Value} {ns:List Bs} (h:NamR b w0 vN ns) (x:Bs) (w:World) (hb:Below b w0 w):Calls Tryz.prog 119 #[vN,.string ⟨x.toArray⟩] w fun e w'=>e= .returned (.int .i64 (idxP ns x))∧w'=w:=by
 have hf:=h.few
 rcases h.ex with ⟨rfl,A,c,rfl⟩ | ⟨g,off,cN,rfl,hg,hc⟩
 ·exact Tryz.slices_Index_string_empty A c ⟨x.toArray⟩ w
 ·have:=Tryz.slices_Index_string g off ns.length cN (ns.map bytesOf) ⟨x.toArray⟩ w (by simp) (by omega) (fun j hj=>by
   rw[List.length_map] at hj;rw[getD_bytes hj];exact(hb.cell (p:=⟨g,off+j,none⟩) hg).trans (hc j _ (List.getElem?_eq_getElem hj)))
  rw[show (ns.map bytesOf).take ns.length=ns.map bytesOf from by rw[List.take_of_length_le (by simp)],show (⟨x.toArray⟩:ByteArray)=bytesOf x from rfl,idx_list] at this;exact this
theorem chas_any {B:Nat} {xs:List Bs} {vM:Value} (x:Bs) (w:World) (h:w.ownsRow B 9 1 vM xs.length (strsP xs)) (hl:xs.length≤100000):Calls Tryz.prog 93 #[vM,.string ⟨x.toArray⟩] w fun e w'=>e= .returned (.bool (xs.contains x))∧w'=w:=by
 rcases h.2 with ⟨rfl,h0⟩ | ⟨g,cap,cur,rfl,_⟩
 ·obtain rfl:xs=[]:=List.length_eq_zero_iff.1 h0
  exact Tryz.slices_Contains_string_empty none 0 ⟨x.toArray⟩ w
 ·have hc:=h.cells (g:=g) rfl
  have:=Tryz.slices_Contains_string g 0 xs.length cap (xs.map bytesOf) ⟨x.toArray⟩ w (by simp) (by omega) (fun j hj=>by
   rw[List.length_map] at hj;rw[getD_bytes hj];have:=hc j (.string ⟨(xs[j]).toArray⟩) (by unfold strsP;rw[List.getElem?_map,List.getElem?_eq_getElem hj];rfl);rw[show (⟨g,0,none⟩:Addr).add j=⟨g,0+j,none⟩ from by cases j <;> simp[Addr.add]] at this;exact this)
  rw[show (xs.map bytesOf).take xs.length=xs.map bytesOf from by rw[List.take_of_length_le (by simp)],show (⟨x.toArray⟩:ByteArray)=bytesOf x from rfl,has_list] at this;exact this
def wordF (kd:Int):Bs:=if kd=1 then wEmit else if kd=2 then wLine else if kd=3 then wShut else []
def formF (kd:Int):Int:=if kd=1 then 7 else if kd=2 then 5 else if kd=3 then 2 else 0
theorem cform_any (kd:Int) (w:World):Calls Tryz.prog 72 #[.int .i64 kd] w fun e w'=>e= .returned (.tuple #[.string ⟨(wordF kd).toArray⟩,.int .i64 (formF kd)])∧w=w':=by
 by_cases k1:kd=1
 ·subst k1
  go_enter Tryz.func72,Tryz.ntmps72;go_wp2
  go_ret2
  exact⟨rfl,rfl⟩
 ·by_cases k2:kd=2
  ·subst k2
   go_enter Tryz.func72,Tryz.ntmps72;go_wp2
   go_ret2
   exact⟨rfl,rfl⟩
  ·by_cases k3:kd=3
   ·subst k3
    go_enter Tryz.func72,Tryz.ntmps72;go_wp2
    go_ret2
    exact⟨rfl,rfl⟩
   ·have e1:wordF kd=[]:=by unfold wordF;rw[if_neg k1,if_neg k2,if_neg k3]
    have e2:formF kd=0:=by unfold formF;rw[if_neg k1,if_neg k2,if_neg k3]
    have b1:(kd==1)=false:=by simpa using k1
    have b2:(kd==2)=false:=by simpa using k2
    have b3:(kd==3)=false:=by simpa using k3
    rw[e1,e2];clear k1 k2 k3 e1 e2;go_enter Tryz.func72,Tryz.ntmps72;go_wp2
    go_ret2
    exact⟨rfl,rfl⟩
section
variable {b:Nat} {w w':World} {A:Option Addr} {n c:Nat} {l:List Tok} {vN:Value} {ns:List Bs} {k o:Nat} {sf:Sf} {ms:List Bs} {vM:Value}
theorem kind_hit {j:Nat} (h1:1≤j) (h3:j≤3) (hm:∀ m:Nat,1≤m→m<j→isP l 1 (wordF m) k=false) (h:isP l 1 (wordF j) k=true):ckind l k= .ok (j:Int) (k+1) [] []:=by
 have e:j=1∨j=2∨j=3:=by omega
 unfold ckind
 rcases e with rfl | rfl | rfl
 ·rw[if_pos (show isP l 1 wEmit k=true from h)];rfl
 ·have m1:¬ isP l 1 wEmit k=true:=by have:=hm 1 (by omega) (by omega);rw[show wordF ((1:Nat):Int)=wEmit from rfl] at this;rw[this];decide
  rw[if_neg m1,if_pos (show isP l 1 wLine k=true from h)];rfl
 ·have m1:¬ isP l 1 wEmit k=true:=by have:=hm 1 (by omega) (by omega);rw[show wordF ((1:Nat):Int)=wEmit from rfl] at this;rw[this];decide
  have m2:¬ isP l 1 wLine k=true:=by have:=hm 2 (by omega) (by omega);rw[show wordF ((2:Nat):Int)=wLine from rfl] at this;rw[this];decide
  rw[if_neg m1,if_neg m2,if_pos (show isP l 1 wShut k=true from h)];rfl
theorem kind_miss (hm:∀ m:Nat,1≤m→m<4→isP l 1 (wordF m) k=false):ckind l k= .bad k:=by
 have m1:¬ isP l 1 wEmit k=true:=by have:=hm 1 (by omega) (by omega);rw[show wordF ((1:Nat):Int)=wEmit from rfl] at this;rw[this];decide
 have m2:¬ isP l 1 wLine k=true:=by have:=hm 2 (by omega) (by omega);rw[show wordF ((2:Nat):Int)=wLine from rfl] at this;rw[this];decide
 have m3:¬ isP l 1 wShut k=true:=by have:=hm 3 (by omega) (by omega);rw[show wordF ((3:Nat):Int)=wShut from rfl] at this;rw[this];decide
 unfold ckind;rw[if_neg m1,if_neg m2,if_neg m3]
theorem ckind_any (h:RdC b w A n c l vN ns k 0 sf ms vM):
  Calls Tryz.prog 120 #[.pointer (some ⟨b,0,none⟩)] w fun e w'=>∃ z:Int,e= .returned (.int .i64 z)∧StepC b w A n c l vN ns (ckind l k).at (ckind l k).err sf ms vM w'∧RsV (ckind l k) z∧((ckind l k).err=1→z=0):=by
 have H:=Lib.hid (Cyc.start h);obtain⟨R,hR⟩:∃ R,R=ckind l k:=⟨_,rfl⟩;rw[←hR];have HR:=Lib.hid hR;have KR:=refK b A n c l vN ns sf ms vM k 0;clear hR h;go_enter Tryz.func120,Tryz.ntmps120;go_wp2
 go_loopw [3,4,5] (fun i _ _ wr=>∃ j:Nat,i= .int .i64 j∧1≤j∧j≤4∧Hid (∀ m:Nat,1≤m→m<j→isP l 1 (wordF m) k=false)∧Hid (Cyc b w wr A n c l vN ns k 0 sf ms vM [])) (fun i _ _ _=>4 - (intOf i).toNat)
 case atStart=>exact⟨1,rfl,by omega,by omega,Lib.hid fun m h1 h2=>by omega,H⟩
 case round=>
  obtain⟨j,rfl,h1,h2,H3,HC⟩:=hrel;by_cases a:j≤3
  ·have K:Hid (∀ w',Calls Tryz.prog 72 #[.int .i64 j] w' fun e w2=>e= .returned (.tuple #[.string ⟨(wordF j).toArray⟩,.int .i64 (formF j)])∧w'=w2):=Lib.hid fun w'=>cform_any j w'
   have KT:=takK b A n c l vN ns sf ms vM 1 (by decide) ⟨(wordF j).toArray⟩ k 0 (v:=isP l 1 (wordF j) k) (isOp_zero _ _ _ _);generalize formF (j:Int)=f at K
   cases hv:isP l 1 (wordF (j:Int)) k with
   | true=>
     have HX:Hid (R= .ok (j:Int) (k+1) [] []):=Lib.hid (by rw[HR.out];exact kind_hit h1 a H3.out hv);rw[hv,if_pos rfl] at KT;generalize wordF (j:Int)=W at K KT;clear hv;go_wp2_with (first | (go_at_call 72;go_must (((with_reducible refine(K.out _).mono ?_));rintro e w1 ⟨rfl,rfl⟩)) | (go_at_call 91;go_must (((with_reducible refine(KT.out _ HC.out.rd).mono ?_));rintro e w1 ⟨rfl,hs⟩;have HD:=Lib.hid (HC.out.call hs);clear hs)));go_ret;rw[HX.out];exact⟨j,rfl,HD.out.step,fun y m s g e=>by injection e with e;exact e.symm,fun e=>by cases e⟩
   | false=>
     have HX:Hid (∀ m:Nat,1≤m→m<j+1→isP l 1 (wordF m) k=false):=Lib.hid fun m hm1 hm2=>by
      by_cases c:m<j
      ·exact H3.out m hm1 c
      ·have:m=j:=by omega
       subst this;exact hv
     rw[hv,if_neg (by decide)] at KT;generalize wordF (j:Int)=W at K KT;clear hv;go_wp2_with (first | (go_at_call 72;go_must (((with_reducible refine(K.out _).mono ?_));rintro e w1 ⟨rfl,rfl⟩)) | (go_at_call 91;go_must (((with_reducible refine(KT.out _ HC.out.rd).mono ?_));rintro e w1 ⟨rfl,hs⟩;have HD:=Lib.hid (HC.out.call hs);clear hs)))
     go_roundw
     case rel=>exact⟨j+1,by go_num,by omega,by omega,HX,HD⟩
     case measure=>simp[intOf];omega
  ·have HX:Hid (R= .bad k):=Lib.hid (by rw[HR.out];exact kind_miss fun m hm1 hm2=>H3.out m hm1 (by omega))
   go_wp2_with (go_at_call 92;go_must (((with_reducible refine(KR.out _ HC.out.rd).mono ?_));rintro e w1 ⟨rfl,hs⟩;have HD:=Lib.hid (HC.out.call hs);clear hs));go_ret;rw[HX.out];exact⟨0,rfl,HD.out.step,fun y m s g e=>(by cases e),fun _=>rfl⟩
theorem ctext_parts (kd cap:Int):ctext l kd cap k=(demP (!badText kd cap ((oneT (nxp l k).parts).getD [])) 5 k).then fun _ k=>textP l k:=by
 rw[dem_ok,Bool.not_not];unfold ctext textP
 split
 ·cases oneT (nxp l k).parts with
  | none=>rfl
  | some s=>
    show Rp.ok s (k+1) ([]++(if badText kd cap s then [(k,5)] else [])) []=Rp.ok s (k+1) ((if badText kd cap s then [(k,5)] else [])++[]) [];rw[List.nil_append,List.append_nil]
 ·rfl
theorem ctext_any (kd cap:Int) (h:RdC b w A n c l vN ns k o sf ms vM):
  Calls Tryz.prog 121 #[.pointer (some ⟨b,0,none⟩),.int .i64 kd,.int .i64 cap] w fun e w'=>∃ s:Bs,e= .returned (.string ⟨s.toArray⟩)∧StepC b w A n c l vN ns (gateR o k (ctext l kd cap k)).at (gateR o k (ctext l kd cap k)).err (sf++(gateR o k (ctext l kd cap k)).sfs) ms vM w'∧RsV (gateR o k (ctext l kd cap k)) s:=by
 have H:=Lib.hid (Cyc.start h);have K:=nexR b A n c l vN ns ms vM k o sf;obtain⟨-,t2,t3,t4⟩:=nxq_fit h.fit k o;have hbl:=h.lt
 have ht:((oneT (nxq l k o).parts).getD []).length≤100000:=by
  unfold oneT
  split
  ·simp
  ·rename_i p hp
   split
   ·have:=t4 p (by rw[hp];simp);simpa using this
   ·simp
  ·simp
 have KP:Hid (∀ w' A1 c1,b≤w'.heap.size→Rd b w' A1 (nxq l k o).parts.length (nxq l k o).parts→Calls Tryz.prog 139 #[.slice A1 (nxq l k o).parts.length c1] w' fun e w2=>e= .returned (.tuple #[.string ⟨((oneT (nxq l k o).parts).getD []).toArray⟩,.bool (oneT (nxq l k o).parts).isSome])∧Below w'.heap.size w' w2):=Lib.hid fun w' A1 c1 hb hr=>
  qplainP A1 _ c1 _ w' (hr.up hb) t2 (by omega) (fun p hp=>Nat.le_trans (t4 p hp) (by omega))
 have KM:Hid (∀ w',Calls Tryz.prog 78 #[.int .i64 kd,.string ⟨((oneT (nxq l k o).parts).getD []).toArray⟩,.int .i64 cap] w' fun e w2=>e= .returned (.bool (!badText kd cap ((oneT (nxq l k o).parts).getD [])))∧Below w'.heap.size w' w2):=Lib.hid fun w'=>cmaytext_any kd cap _ (by show (List.toArray _).size≤_;rw[List.size_toArray];omega) w'
 obtain⟨R1,h1⟩:∃ R1,R1=gateR o k (demP (!badText kd cap ((oneT (nxq l k o).parts).getD [])) 5 k):=⟨_,rfl⟩;have K1:=demR b A n c l vN ns ms vM (!badText kd cap ((oneT (nxq l k o).parts).getD [])) 5 (by decide) k o sf;rw[←h1] at K1;obtain⟨R2,h2⟩:∃ R2,R2=gateR R1.err R1.at (textP l R1.at):=⟨_,rfl⟩;have K2:=plaR b A n c l vN ns ms vM R1.at R1.err (sf++R1.sfs);rw[←h2] at K2
 have hg:R1.then (fun _ k=>textP l k)=gateR o k (ctext l kd cap k):=by
  rw[h1,←gate_then];unfold gateR
  split
  ·rename_i ho
   rw[ctext_parts,ho];rfl
  ·rfl
 have HR:Hid (∀ (s:Bs) (W:World),RsV R2 s→StepC b w A n c l vN ns R2.at R2.err ((sf++R1.sfs)++R2.sfs) ms vM W→StepC b w A n c l vN ns (gateR o k (ctext l kd cap k)).at (gateR o k (ctext l kd cap k)).err (sf++(gateR o k (ctext l kd cap k)).sfs) ms vM W∧RsV (gateR o k (ctext l kd cap k)) s):=Lib.hid fun s W hs hW=>by
  have s1:=seq_step (F:=fun _ k=>textP l k) (x:=()) unit_res h2 hW;have r1:=(seq_at (F:=fun _ k=>textP l k) (x:=()) unit_res h2).2.2.2 s hs;rw[hg] at s1 r1;exact⟨s1,r1⟩
 have tf:=tkF3;clear h1 h2 h hg t2 t3 t4 ht;generalize gateR o k (ctext l kd cap k)=R at HR ⊢;generalize nxq l k o=t at K K1 KP KM;generalize badText kd cap ((oneT t.parts).getD [])=v at K1 KM;generalize (oneT t.parts).getD []=S at KP KM;go_enter Tryz.func121,Tryz.ntmps121
 go_wp2_with (first
  | (go_at_call 60;go_must (((with_reducible refine(K.out _ H.out.rd).mono ?_));rintro e w1 ⟨A1,c1,rfl,hb1,hr1⟩;have HA:=Lib.hid (H.out.below hb1);have HQ:=Lib.hid (hr1.keep (hb1.mono (Nat.le_of_lt hbl)));clear hb1 hr1))
  | (go_at_call 139;go_must (((with_reducible refine(KP.out _ _ _ (Nat.le_of_lt HA.out.rd.lt) HQ.out).mono ?_));rintro e w2 ⟨rfl,hb2⟩;have HB:=Lib.hid (HA.out.below hb2);clear hb2))
  | (go_at_call 78;go_must (((with_reducible refine(KM.out _).mono ?_));rintro e w2 ⟨rfl,hb2⟩;have HC:=Lib.hid (HB.out.below hb2);clear hb2))
  | (go_at_call 59;go_must (((with_reducible refine(K1.out _ HC.out.rd).mono ?_));rintro e w2 ⟨rfl,hs⟩;have HD:=Lib.hid (HC.out.call hs);clear hs))
  | (go_at_call 140;go_must (((with_reducible refine(K2.out _ HD.out.rd).mono ?_));rintro e w4 ⟨s4,rfl,hs,hv⟩;have HE:=Lib.hid (HD.out.call hs);have HV:=Lib.hid hv;clear hs hv)))
 go_ret;exact⟨s4,rfl,HR.out s4 _ HV.out HE.out.step⟩
end
end
section
section
variable {b:Nat} {w w':World} {A:Option Addr} {n c:Nat} {l:List Tok} {vN:Value} {ns:List Bs} {k o:Nat} {sf:Sf} {ms:List Bs} {vM:Value}
theorem fin_step {α β:Type} {R:Rp α} {x:α} (f:α→β) (hx:RsV R x) (h:StepC b w A n c l vN ns R.at R.err (sf++R.sfs) ms vM w'):StepC b w A n c l vN ns (R.then fun x j=>Rp.ok (f x) j [] []).at (R.then fun x j=>Rp.ok (f x) j [] []).err (sf++(R.then fun x j=>Rp.ok (f x) j [] []).sfs) ms vM w'∧RsV (R.then fun x j=>Rp.ok (f x) j [] []) (f x):=by
 have hg:∀ o k,(o=0∨o=1)→RsV (gateR o k (Rp.ok (f x) k [] [])) (f x):=fun o k ho=>by
  rcases ho with rfl | rfl
  ·exact fun y m s g e=>by injection e with e;exact e.symm
  ·exact fun y m s g e=>by cases e
 have h2:StepC b w A n c l vN ns (gateR R.err R.at (Rp.ok (f x) R.at [] [])).at (gateR R.err R.at (Rp.ok (f x) R.at [] [])).err ((sf++R.sfs)++(gateR R.err R.at (Rp.ok (f x) R.at [] [])).sfs) ms vM w':=by
  rcases err_any R with e | e
  ·rw[e] at h ⊢;exact⟨h.1,h.2.nil⟩
  ·rw[e] at h ⊢;exact⟨h.1,h.2.nil⟩
 exact⟨seq_step (F:=fun x j=>Rp.ok (f x) j [] []) hx rfl h2,(seq_at (F:=fun x j=>Rp.ok (f x) j [] []) hx rfl).2.2.2 (f x) (hg _ _ (err_any R))⟩
theorem two_step {α β:Type} {R1:Rp α} {R2:Rp β} {F:α→Nat→Rp β} {x:α} {z:β} (hx:RsV R1 x) (h2:R2=gateR R1.err R1.at (F x R1.at)) (h:StepC b w A n c l vN ns R2.at R2.err ((sf++R1.sfs)++R2.sfs) ms vM w'∧RsV R2 z):StepC b w A n c l vN ns (R1.then F).at (R1.then F).err (sf++(R1.then F).sfs) ms vM w'∧RsV (R1.then F) z:=
 ⟨seq_step hx h2 h.1,(seq_at hx h2).2.2.2 z h.2⟩
def everP (l:List Tok) (lo:Int) (j:Nat):Rp (Int × Int):=(takB l 1 wEver j).then fun v j=>if v then .ok (lo, -1) j [] [] else (cdel l lo j).then fun hi m=> .ok (lo,hi) m [] []
theorem ever_eq (lo:Int) (j:Nat):everP l lo j=if isP l 1 wEver j then .ok (lo, -1) (j+1) [] [] else (cdel l lo j).then fun hi m=> .ok (lo,hi) m [] []:=by
 unfold everP takB
 split
 ·rw[ok_then0];rfl
 ·rw[ok_then0];rfl
theorem cdels_eq (k:Nat):cdels l k=(needP l 1 wAfter k).then fun _ i=>(cdel l 0 i).then fun lo j=>everP l lo j:=by
 unfold cdels
 congr 1
 funext _ i
 congr 1
 funext lo j
 rw[ever_eq]
theorem cdels_any (h:RdC b w A n c l vN ns k o sf ms vM):
  Calls Tryz.prog 122 #[.pointer (some ⟨b,0,none⟩)] w fun e w'=>∃ d:Int × Int,e= .returned (.tuple #[.int .i64 d.1,.int .i64 d.2])∧StepC b w A n c l vN ns (gateR o k (cdels l k)).at (gateR o k (cdels l k)).err (sf++(gateR o k (cdels l k)).sfs) ms vM w'∧RsV (gateR o k (cdels l k)) d:=by
 have H:=Lib.hid (Cyc.start h);obtain⟨R1,h1⟩:∃ R1,R1=gateR o k (needP l 1 wAfter k):=⟨_,rfl⟩;have K1:=neeR b A n c l vN ns ms vM 1 (by decide) ⟨#[97,102,116,101,114]⟩ k o sf;rw[show (⟨#[97,102,116,101,114]⟩:ByteArray).data.toList=wAfter from rfl,←h1] at K1;obtain⟨R2,h2⟩:∃ R2,R2=gateR R1.err R1.at (cdel l 0 R1.at):=⟨_,rfl⟩;have K2:=delR b A n c l vN ns ms vM 0 R1.at R1.err (sf++R1.sfs);rw[←h2] at K2;obtain⟨R3,h3⟩:∃ R3,R3=gateR R2.err R2.at (takB l 1 wEver R2.at):=⟨_,rfl⟩
 have K3:∀ v,isOp l 1 wEver R2.at R2.err=v→TakR b A n c l vN ns ms vM 1 ⟨#[101,118,101,114]⟩ R2.at R2.err ((sf++R1.sfs)++R2.sfs) v R3:=fun v hv=>by
  rw[h3];exact takR b A n c l vN ns ms vM 1 (by decide) ⟨#[101,118,101,114]⟩ R2.at R2.err ((sf++R1.sfs)++R2.sfs) hv
 have V3:=take_res (l:=l) (kd:=1) (W:=wEver) (k:=R2.at) (o:=R2.err);rw[←h3] at V3;have K4:Hid (∀ z,DelR b A n c l vN ns ms vM z R3.at R3.err (((sf++R1.sfs)++R2.sfs)++R3.sfs) (gateR R3.err R3.at (cdel l z R3.at))):=Lib.hid fun z=>delR b A n c l vN ns ms vM z R3.at R3.err (((sf++R1.sfs)++R2.sfs)++R3.sfs)
 have hfin:∀ (z:Int) (d:Int × Int) (W:World),RsV R2 z→(StepC b w A n c l vN ns (gateR R2.err R2.at (everP l z R2.at)).at (gateR R2.err R2.at (everP l z R2.at)).err (((sf++R1.sfs)++R2.sfs)++(gateR R2.err R2.at (everP l z R2.at)).sfs) ms vM W∧RsV (gateR R2.err R2.at (everP l z R2.at)) d)→StepC b w A n c l vN ns (gateR o k (cdels l k)).at (gateR o k (cdels l k)).err (sf++(gateR o k (cdels l k)).sfs) ms vM W∧RsV (gateR o k (cdels l k)) d:=by
  intro z d W hz hW;have s2:=two_step (F:=fun lo j=>everP l lo j) hz rfl hW;have g2:R2.then (fun lo j=>everP l lo j)=gateR R1.err R1.at ((cdel l 0 R1.at).then fun lo j=>everP l lo j):=by rw[gate_then,←h2]
  have s1:=two_step (F:=fun _ i=>(cdel l 0 i).then fun lo j=>everP l lo j) (x:=()) unit_res g2 s2;have g1:R1.then (fun _ i=>(cdel l 0 i).then fun lo j=>everP l lo j)=gateR o k (cdels l k):=by rw[h1,←gate_then,cdels_eq]
  rw[g1] at s1;exact s1
 have HF:=Lib.hid hfin;have g3:∀ z,R3.then (fun v j=>if v then Rp.ok (z, -1) j [] [] else (cdel l z j).then fun hi m=>Rp.ok (z,hi) m [] [])=gateR R2.err R2.at (everP l z R2.at):=fun z=>by rw[h3,←gate_then];rfl
 cases hv:isOp l 1 wEver R2.at R2.err with
 | true=>
   have K3:=K3 _ hv;rw[hv] at V3
   have HE:Hid (∀ (z:Int) (W:World),StepC b w A n c l vN ns R3.at R3.err (((sf++R1.sfs)++R2.sfs)++R3.sfs) ms vM W→StepC b w A n c l vN ns (gateR R2.err R2.at (everP l z R2.at)).at (gateR R2.err R2.at (everP l z R2.at)).err (((sf++R1.sfs)++R2.sfs)++(gateR R2.err R2.at (everP l z R2.at)).sfs) ms vM W∧RsV (gateR R2.err R2.at (everP l z R2.at)) (z, -1)):=Lib.hid fun z W hW=>by
    rw[←g3 z];have:=fin_step (fun _:Bool=>((z, -1):Int × Int)) V3 hW
    have e:R3.then (fun v j=>if v then Rp.ok ((z, -1):Int × Int) j [] [] else (cdel l z j).then fun hi m=>Rp.ok (z,hi) m [] [])=R3.then fun _ j=>Rp.ok ((z, -1):Int × Int) j [] []:=by
     cases hR:R3 with
     | bad j=>rfl
     | ok y j s g=>rw[V3 _ _ _ _ hR];rfl
    rw[e];exact this
   clear hfin g3 h1 h2 h3 hv h V3 K4;go_enter Tryz.func122,Tryz.ntmps122
   go_wp2_with (first
    | (go_at_call 58;go_must (((with_reducible refine(K1.out _ H.out.rd).mono ?_));rintro e w1 ⟨rfl,hs⟩;have HA:=Lib.hid (H.out.call hs);clear hs))
    | (go_at_call 141;go_must (((with_reducible refine(K2.out _ HA.out.rd).mono ?_));rintro e w2 ⟨z,rfl,hs,hz⟩;have HB:=Lib.hid (HA.out.call hs);have HZ:=Lib.hid hz;clear hs hz))
    | (go_at_call 91;go_must (((with_reducible refine(K3.out _ HB.out.rd).mono ?_));rintro e w3 ⟨rfl,hs⟩;have HC:=Lib.hid (HB.out.call hs);clear hs)))
   go_ret2
   exact⟨(z, -1),rfl,HF.out z (z, -1) _ HZ.out (HE.out z _ HC.out.step)⟩
 | false=>
   have K3:=K3 _ hv;rw[hv] at V3
   have HE:Hid (∀ (z z2:Int) (W:World),RsV (gateR R3.err R3.at (cdel l z R3.at)) z2→StepC b w A n c l vN ns (gateR R3.err R3.at (cdel l z R3.at)).at (gateR R3.err R3.at (cdel l z R3.at)).err ((((sf++R1.sfs)++R2.sfs)++R3.sfs)++(gateR R3.err R3.at (cdel l z R3.at)).sfs) ms vM W→StepC b w A n c l vN ns (gateR R2.err R2.at (everP l z R2.at)).at (gateR R2.err R2.at (everP l z R2.at)).err (((sf++R1.sfs)++R2.sfs)++(gateR R2.err R2.at (everP l z R2.at)).sfs) ms vM W∧RsV (gateR R2.err R2.at (everP l z R2.at)) (z,z2)):=Lib.hid fun z z2 W hz hW=>by
    have s4:=fin_step (fun hi:Int=>((z,hi):Int × Int)) hz hW
    have e:R3.then (fun v j=>if v then Rp.ok ((z, -1):Int × Int) j [] [] else (cdel l z j).then fun hi m=>Rp.ok (z,hi) m [] [])=R3.then fun _ j=>(cdel l z j).then fun hi m=>Rp.ok (z,hi) m [] []:=by
     cases hR:R3 with
     | bad j=>rfl
     | ok y j s g=>rw[V3 _ _ _ _ hR];rfl
    rw[←g3 z,e];exact two_step (F:=fun _ j=>(cdel l z j).then fun hi m=>Rp.ok (z,hi) m [] []) V3 (by rw[gate_then]) s4
   clear hfin g3 h1 h2 h3 hv h V3;go_enter Tryz.func122,Tryz.ntmps122
   go_wp2_with (first
    | (go_at_call 58;go_must (((with_reducible refine(K1.out _ H.out.rd).mono ?_));rintro e w1 ⟨rfl,hs⟩;have HA:=Lib.hid (H.out.call hs);clear hs))
    | (go_at_call 141;(((with_reducible refine(K2.out _ HA.out.rd).mono ?_));rintro e w2 ⟨z,rfl,hs,hz⟩;have HB:=Lib.hid (HA.out.call hs);have HZ:=Lib.hid hz;clear hs hz))
    | (go_at_call 91;go_must (((with_reducible refine(K3.out _ HB.out.rd).mono ?_));rintro e w3 ⟨rfl,hs⟩;have HC:=Lib.hid (HB.out.call hs);clear hs))
    | (go_at_call 141;(((with_reducible refine((K4.out _).out _ HC.out.rd).mono ?_));rintro e w2 ⟨z2,rfl,hs,hz⟩;have HD:=Lib.hid (HC.out.call hs);have HY:=Lib.hid hz;clear hs hz)))
   go_ret2
   exact⟨(z,z2),rfl,HF.out z (z,z2) _ HZ.out (HE.out z z2 _ HY.out HD.out.step)⟩
theorem cgoto_parts (k:Nat):cgoto l ns k=(needP l 1 wGoto k).then fun _ i=>(demP (decide (0≤idxP ns (nxp l i).word)) 6 i).then fun _ i=>(nameP l i).then fun w j=> .ok (idxP ns w) j [] []:=by
 unfold cgoto
 congr 1
 funext _ i
 rw[dem_ok];unfold nameP
 split
 ·show Rp.ok (idxP ns (nxp l i).word) (i+1) ([]++(if (nxp l i).word∈ns then [] else [(i,6)])) []=Rp.ok (idxP ns (nxp l i).word) (i+1) ((if !decide (0≤idxP ns (nxp l i).word) then [(i,6)] else [])++[]) []
  rw[List.nil_append,List.append_nil]
  congr 1
  unfold idxP;by_cases h:(nxp l i).word∈ns
  ·rw[if_pos h,if_pos h,decide_eq_true (by omega)];rfl
  ·rw[if_neg h,if_neg h,decide_eq_false (by decide)];rfl
 ·rfl
theorem cgoto_any (h:RdC b w A n c l vN ns k o sf ms vM):
  Calls Tryz.prog 123 #[.pointer (some ⟨b,0,none⟩)] w fun e w'=>∃ z:Int,e= .returned (.int .i64 z)∧StepC b w A n c l vN ns (gateR o k (cgoto l ns k)).at (gateR o k (cgoto l ns k)).err (sf++(gateR o k (cgoto l ns k)).sfs) ms vM w'∧RsV (gateR o k (cgoto l ns k)) z:=by
 have H:=Lib.hid (Cyc.start h);have hbl:=h.lt;obtain⟨R1,h1⟩:∃ R1,R1=gateR o k (needP l 1 wGoto k):=⟨_,rfl⟩;have K1:=neeR b A n c l vN ns ms vM 1 (by decide) ⟨#[103,111,116,111]⟩ k o sf;rw[show (⟨#[103,111,116,111]⟩:ByteArray).data.toList=wGoto from rfl,←h1] at K1;have K:=nexR b A n c l vN ns ms vM R1.at R1.err (sf++R1.sfs);have KI:Hid (∀ W,RdC b W A n c l vN ns R1.at R1.err (sf++R1.sfs) ms vM→Calls Tryz.prog 119 #[vN,.string ⟨(nxq l R1.at R1.err).word.toArray⟩] W fun e w2=>e= .returned (.int .i64 (idxP ns (nxq l R1.at R1.err).word))∧w2=W):=Lib.hid fun W hW=>cidx_any hW.nam _ W (Below.refl _ _)
 obtain⟨R2,h2⟩:∃ R2,R2=gateR R1.err R1.at (demP (decide (0≤idxP ns (nxq l R1.at R1.err).word)) 6 R1.at):=⟨_,rfl⟩;have K2:=demR b A n c l vN ns ms vM (decide (0≤idxP ns (nxq l R1.at R1.err).word)) 6 (by decide) R1.at R1.err (sf++R1.sfs);rw[←h2] at K2;obtain⟨R3,h3⟩:∃ R3,R3=gateR R2.err R2.at (nameP l R2.at):=⟨_,rfl⟩;have K3:=namR b A n c l vN ns ms vM R2.at R2.err ((sf++R1.sfs)++R2.sfs);rw[←h3] at K3
 have HR:Hid (∀ (s:Bs) (W:World),RsV R3 s→StepC b w A n c l vN ns R3.at R3.err (((sf++R1.sfs)++R2.sfs)++R3.sfs) ms vM W→StepC b w A n c l vN ns (gateR o k (cgoto l ns k)).at (gateR o k (cgoto l ns k)).err (sf++(gateR o k (cgoto l ns k)).sfs) ms vM W∧RsV (gateR o k (cgoto l ns k)) (idxP ns (nxq l R1.at R1.err).word)):=Lib.hid fun s W hs hW=>by
  have s3:=fin_step (fun w:Bs=>idxP ns w) hs hW;have g3:R3.then (fun w j=>Rp.ok (idxP ns w) j [] [])=gateR R2.err R2.at ((nameP l R2.at).then fun w j=>Rp.ok (idxP ns w) j [] []):=by rw[gate_then,←h3]
  have s2:=two_step (F:=fun _ i=>(nameP l i).then fun w j=>Rp.ok (idxP ns w) j [] []) (x:=()) unit_res g3 s3
  have g2:R2.then (fun _ i=>(nameP l i).then fun w j=>Rp.ok (idxP ns w) j [] [])=gateR R1.err R1.at ((fun i=>(demP (decide (0≤idxP ns (nxp l i).word)) 6 i).then fun _ i=>(nameP l i).then fun w j=>Rp.ok (idxP ns w) j [] []) R1.at):=by
   rw[h2];show _=gateR R1.err R1.at ((demP (decide (0≤idxP ns (nxp l R1.at).word)) 6 R1.at).then fun _ i=>(nameP l i).then fun w j=>Rp.ok (idxP ns w) j [] []);rw[←gate_then];unfold gateR
   split
   ·rename_i ho
    rw[ho];rfl
   ·rfl
  have s1:=two_step (F:=fun _ i=>(demP (decide (0≤idxP ns (nxp l i).word)) 6 i).then fun _ i=>(nameP l i).then fun w j=>Rp.ok (idxP ns w) j [] []) (x:=()) unit_res g2 s2;have g1:R1.then (fun _ i=>(demP (decide (0≤idxP ns (nxp l i).word)) 6 i).then fun _ i=>(nameP l i).then fun w j=>Rp.ok (idxP ns w) j [] [])=gateR o k (cgoto l ns k):=by rw[h1,←gate_then,cgoto_parts]
  rw[g1] at s1;refine⟨s1.1,fun y m z g e=>?_⟩;have hy:=s1.2 y m z g e;rw[hy];rw[←g1] at e
  cases hR1:R1 with
  | bad j=>rw[hR1] at e;cases e
  | ok u j s' g'=>
    rw[hR1] at h2;have e2:R2=demP (decide (0≤idxP ns (nxq l j 0).word)) 6 j:=h2;have e3:R3=nameP l j:=by rw[h3,e2];rfl
    cases hN:nameP l j with
    | bad q=>
      rw[hR1] at e;unfold Rp.then demP at e
      simp only[hN] at e
      cases e
    | ok v q s2 g2=>
      have hv:=hs v q s2 g2 (by rw[e3,hN]);have:=(name_ok hN).2.2.2.1;rw[←hv,this];rfl
 have hNX:=(H.out.rd);have tf:=tkF1;clear h1 h2 h3 h hNX;generalize gateR o k (cgoto l ns k)=R at HR ⊢;generalize nxq l R1.at R1.err=t at K K2 KI HR;go_enter Tryz.func123,Tryz.ntmps123
 go_upto_region 2 with (first
  | (go_at_call 58;go_must (((with_reducible refine(K1.out _ H.out.rd).mono ?_));rintro e w1 ⟨rfl,hs⟩;have HA:=Lib.hid (H.out.call hs);clear hs)))
 have HA2:=Lib.hid HA.out.drew;have c3:=HA2.out.rd.c3
 go_region_held3 (fun w'=>w'.cell? ⟨b,3,none⟩=some vN) (first | with_reducible exact HB.out.rd.c3 | with_reducible exact HA2.out.rd.c3) (first
  | (go_at_call 60;go_must (((with_reducible refine(K.out _ HA2.out.rd).mono ?_));rintro e w2 ⟨A1,c1,rfl,hb1, -⟩;have HB:=Lib.hid (HA2.out.below hb1);clear hb1))
  | (go_at_call 119;go_must (((with_reducible refine(KI.out _ HB.out.rd).mono ?_));rintro e w3 ⟨rfl,rfl⟩))
  | fail)
 all_goals
  go_wp2_with (first
   | (go_at_call 59;go_must (((with_reducible refine(K2.out _ HB.out.rd).mono ?_));rintro e w4 ⟨rfl,hs⟩;have HC:=Lib.hid (HB.out.call hs);clear hs))
   | (go_at_call 94;go_must (((with_reducible refine(K3.out _ HC.out.rd).mono ?_));rintro e w5 ⟨s5,rfl,hs,hv⟩;have HD:=Lib.hid (HC.out.call hs);have HV:=Lib.hid hv;clear hs hv)))
  go_ret;exact⟨_,rfl,HR.out s5 _ HV.out HD.out.step⟩
end
end
section
abbrev zeroE:List Value:=[.int .i64 0,.string ⟨#[]⟩,.int .i64 0,.int .i64 0,.int .i64 0]
abbrev retE (e:EdP):Value:= .agg #[.int .i64 e.kind,.string ⟨e.text.toArray⟩,.int .i64 e.lo,.int .i64 e.hi,.int .i64 e.to]
section
variable (b:Nat) (A:Option Addr) (n c:Nat) (l:List Tok) (vN:Value) (ns:List Bs) (ms:List Bs) (vM:Value)
abbrev TexR (kd cap:Int) (k o:Nat) (sf:Sf) (R:Rp Bs):Prop:=Hid (∀ w',RdC b w' A n c l vN ns k o sf ms vM→Calls Tryz.prog 121 #[.pointer (some ⟨b,0,none⟩),.int .i64 kd,.int .i64 cap] w' fun e w2=>∃ s:Bs,e= .returned (.string ⟨s.toArray⟩)∧StepC b w' A n c l vN ns R.at R.err (sf++R.sfs) ms vM w2∧RsV R s)
theorem texR (kd cap:Int) (k o:Nat) (sf:Sf):TexR b A n c l vN ns ms vM kd cap k o sf (gateR o k (ctext l kd cap k)):=Lib.hid fun _ h=>ctext_any kd cap h
abbrev DesR (k o:Nat) (sf:Sf) (R:Rp (Int × Int)):Prop:=Hid (∀ w',RdC b w' A n c l vN ns k o sf ms vM→Calls Tryz.prog 122 #[.pointer (some ⟨b,0,none⟩)] w' fun e w2=>∃ d:Int × Int,e= .returned (.tuple #[.int .i64 d.1,.int .i64 d.2])∧StepC b w' A n c l vN ns R.at R.err (sf++R.sfs) ms vM w2∧RsV R d)
theorem desR (k o:Nat) (sf:Sf):DesR b A n c l vN ns ms vM k o sf (gateR o k (cdels l k)):=Lib.hid fun _ h=>cdels_any h
abbrev GotR (k o:Nat) (sf:Sf) (R:Rp Int):Prop:=Hid (∀ w',RdC b w' A n c l vN ns k o sf ms vM→Calls Tryz.prog 123 #[.pointer (some ⟨b,0,none⟩)] w' fun e w2=>∃ z:Int,e= .returned (.int .i64 z)∧StepC b w' A n c l vN ns R.at R.err (sf++R.sfs) ms vM w2∧RsV R z)
theorem gotR (k o:Nat) (sf:Sf):GotR b A n c l vN ns ms vM k o sf (gateR o k (cgoto l ns k)):=Lib.hid fun _ h=>cgoto_any h
abbrev KidR (k:Nat) (sf:Sf) (z:Int) (k2 o2:Nat):Prop:=Hid (∀ w',RdC b w' A n c l vN ns k 0 sf ms vM→Calls Tryz.prog 120 #[.pointer (some ⟨b,0,none⟩)] w' fun e w2=>e= .returned (.int .i64 z)∧StepC b w' A n c l vN ns k2 o2 sf ms vM w2)
end
section
variable {b:Nat} {w w':World} {A:Option Addr} {n c:Nat} {l:List Tok} {vN:Value} {ns:List Bs} {k o:Nat} {sf:Sf} {ms:List Bs} {vM:Value}
theorem kidR_ok {z:Int} (hz:ckind l k= .ok z (k+1) [] []):KidR b A n c l vN ns ms vM k sf z (k+1) 0:=Lib.hid fun w' h=>by
 refine(ckind_any h).mono fun e w2 ⟨z2,h1,h2,h3,_⟩=>?_
 rw[hz] at h2 h3;have:=h3 _ _ _ _ rfl;rw[←this] at h1;exact⟨h1,h2⟩
theorem kidR_bad {j:Nat} (hz:ckind l k= .bad j):KidR b A n c l vN ns ms vM k sf 0 j 1:=Lib.hid fun w' h=>by
 refine(ckind_any h).mono fun e w2 ⟨z2,h1,h2,_,h4⟩=>?_
 rw[hz] at h2 h4;rw[h4 rfl] at h1;exact⟨h1,h2⟩
abbrev FofC (z:Int) (S:ByteArray) (f:Int):Prop:=Hid (∀ w',Calls Tryz.prog 72 #[.int .i64 z] w' fun e w2=>e= .returned (.tuple #[.string S,.int .i64 f])∧w'=w2)
theorem ckind_cases:ckind l k= .ok 1 (k+1) [] []∨ckind l k= .ok 2 (k+1) [] []∨ckind l k= .ok 3 (k+1) [] []∨ckind l k= .bad k:=by
 unfold ckind
 split
 ·exact .inl rfl
 ·split
  ·exact .inr (.inl rfl)
  ·split
   ·exact .inr (.inr (.inl rfl))
   ·exact .inr (.inr (.inr rfl))
theorem cedge_emit (cap:Int) (h:RdC b w A n c l vN ns k 0 sf ms vM) (hz:ckind l k= .ok 1 (k+1) [] []):
  Calls Tryz.prog 95 #[.pointer (some ⟨b,0,none⟩),.int .i64 cap] w fun r w'=>∃ e:EdP,r= .returned (retE e)∧StepC b w A n c l vN ns (cedge l ns cap k).at (cedge l ns cap k).err (sf++(cedge l ns cap k).sfs) ms vM w'∧RsV (cedge l ns cap k) e:=by
 have H:=Lib.hid (Cyc.start h);have KF:FofC 1 ⟨wEmit.toArray⟩ 7:=Lib.hid fun w'=>cform_any 1 w'
 generalize (⟨wEmit.toArray⟩:ByteArray)=SW at KF;have KK:=kidR_ok (b:=b) (A:=A) (n:=n) (c:=c) (vN:=vN) (ns:=ns) (ms:=ms) (vM:=vM) (sf:=sf) hz;obtain⟨R1,h1⟩:∃ R1,R1=gateR 0 (k+1) (ctext l 1 cap (k+1)):=⟨_,rfl⟩;have K1:=texR b A n c l vN ns ms vM 1 cap (k+1) 0 sf;rw[←h1] at K1;obtain⟨R2,h2⟩:∃ R2,R2=gateR R1.err R1.at (cdels l R1.at):=⟨_,rfl⟩;have K2:=desR b A n c l vN ns ms vM R1.at R1.err (sf++R1.sfs);rw[←h2] at K2;obtain⟨R3,h3⟩:∃ R3,R3=gateR R2.err R2.at (cgoto l ns R2.at):=⟨_,rfl⟩;have K3:=gotR b A n c l vN ns ms vM R2.at R2.err ((sf++R1.sfs)++R2.sfs);rw[←h3] at K3
 have HR:Hid (∀ (s:Bs) (d:Int × Int) (t:Int) (W:World),RsV R1 s→RsV R2 d→RsV R3 t→StepC b w A n c l vN ns R3.at R3.err (((sf++R1.sfs)++R2.sfs)++R3.sfs) ms vM W→StepC b w A n c l vN ns (cedge l ns cap k).at (cedge l ns cap k).err (sf++(cedge l ns cap k).sfs) ms vM W∧RsV (cedge l ns cap k) ⟨1,s,d.1,d.2,t⟩):=Lib.hid fun s d t W hv1 hv2 hv3 hW=>by
  have s3:=fin_step (fun t:Int=>(⟨1,s,d.1,d.2,t⟩:EdP)) hv3 hW;have g3:R3.then (fun t j2=>Rp.ok (⟨1,s,d.1,d.2,t⟩:EdP) j2 [] [])=gateR R2.err R2.at ((cgoto l ns R2.at).then fun t j2=>Rp.ok (⟨1,s,d.1,d.2,t⟩:EdP) j2 [] []):=by rw[gate_then,←h3]
  have s2:=two_step (F:=fun d j1=>(cgoto l ns j1).then fun t j2=>Rp.ok (⟨1,s,d.1,d.2,t⟩:EdP) j2 [] []) hv2 g3 s3;have g2:R2.then (fun d j1=>(cgoto l ns j1).then fun t j2=>Rp.ok (⟨1,s,d.1,d.2,t⟩:EdP) j2 [] [])=gateR R1.err R1.at ((cdels l R1.at).then fun d j1=>(cgoto l ns j1).then fun t j2=>Rp.ok (⟨1,s,d.1,d.2,t⟩:EdP) j2 [] []):=by rw[gate_then,←h2]
  have s1:=two_step (F:=fun s j0=>(cdels l j0).then fun d j1=>(cgoto l ns j1).then fun t j2=>Rp.ok (⟨1,s,d.1,d.2,t⟩:EdP) j2 [] []) hv1 g2 s2;have g1:R1.then (fun s j0=>(cdels l j0).then fun d j1=>(cgoto l ns j1).then fun t j2=>Rp.ok (⟨1,s,d.1,d.2,t⟩:EdP) j2 [] [])=cedgeK l ns cap 1 (k+1):=by rw[h1];rfl
  have eR:cedge l ns cap k=R1.then (fun s j0=>(cdels l j0).then fun d j1=>(cgoto l ns j1).then fun t j2=>Rp.ok (⟨1,s,d.1,d.2,t⟩:EdP) j2 [] []):=by unfold cedge;rw[hz,ok_then0,g1]
  rw[eR];exact s1
 clear h1 h2 h3 h hz;generalize cedge l ns cap k=R at HR ⊢;go_enter Tryz.func95,Tryz.ntmps95
 go_wp2_with (first
  | (go_at_call 120;go_must (((with_reducible refine(KK.out _ (H.out.alloc 39 zeroE (by simp)).rd).mono ?_));rintro e w1 ⟨rfl,hs⟩;have HA:=Lib.hid (((H.out.alloc 39 zeroE (by simp)).call hs).alloc 39 [.int .i64 1,.string ⟨#[]⟩,.int .i64 0,.int .i64 0,.int .i64 0] (by simp));obtain⟨q0,q1,q2,q3⟩:=HA.out.two;obtain⟨g0,g1,g2,g3,g4⟩:=(HA.out.box 0 _ _ rfl).all5;obtain⟨j0,j1,j2,j3,j4⟩:=(HA.out.box 0 _ _ rfl).fre5;obtain⟨r0,r1,r2,r3,r4⟩:=(HA.out.box 1 _ _ rfl).all5;obtain⟨y0,y1,y2,y3,y4⟩:=(HA.out.box 1 _ _ rfl).fre5;clear hs))
  | (go_at_call 72;go_must (((with_reducible refine(KF.out _).mono ?_));rintro e w2 ⟨rfl,rfl⟩))
  | (go_at_call 121;go_must (((with_reducible refine(K1.out _ HA.out.rd).mono ?_));rintro e w3 ⟨s,rfl,hs,hv⟩;have V1:=Lib.hid hv;have HB0:=Lib.hid (HA.out.call hs);clear g0 g1 g2 g3 g4 j0 j1 j2 j3 j4 r0 r1 r2 r3 r4 y0 y1 y2 y3 y4;obtain⟨g0,g1,g2,g3,g4⟩:=(HB0.out.box 0 _ _ rfl).all5;obtain⟨j0,j1,j2,j3,j4⟩:=(HB0.out.box 0 _ _ rfl).fre5;obtain⟨r0,r1,r2,r3,r4⟩:=(HB0.out.box 1 _ _ rfl).all5;obtain⟨y0,y1,y2,y3,y4⟩:=(HB0.out.box 1 _ _ rfl).fre5;have HB:=Lib.hid ((HB0.out.put 0 _ _ rfl 1 (by simp) (.string ⟨s.toArray⟩)));have p0:=HB0.out.two;clear hs hv))
  | (go_at_call 122;go_must (((with_reducible refine(K2.out _ HB.out.rd).mono ?_));rintro e w4 ⟨d,rfl,hs,hv⟩;have V2:=Lib.hid hv;have HC0:=Lib.hid (HB.out.call hs);clear g0 g1 g2 g3 g4 j0 j1 j2 j3 j4 r0 r1 r2 r3 r4 y0 y1 y2 y3 y4;obtain⟨g0,g1,g2,g3,g4⟩:=(HC0.out.box 0 _ _ rfl).all5;obtain⟨j0,j1,j2,j3,j4⟩:=(HC0.out.box 0 _ _ rfl).fre5;obtain⟨r0,r1,r2,r3,r4⟩:=(HC0.out.box 1 _ _ rfl).all5;obtain⟨y0,y1,y2,y3,y4⟩:=(HC0.out.box 1 _ _ rfl).fre5;have HC:=Lib.hid (((HC0.out.put 0 _ _ rfl 2 (by simp) (.int .i64 d.1)).put 0 _ _ rfl 3 (by simp) (.int .i64 d.2)));have p1:=HC0.out.two;clear hs hv))
  | (go_at_call 123;go_must (((with_reducible refine(K3.out _ HC.out.rd).mono ?_));rintro e w5 ⟨t,rfl,hs,hv⟩;have V3:=Lib.hid hv;have HD0:=Lib.hid (HC.out.call hs);clear g0 g1 g2 g3 g4 j0 j1 j2 j3 j4 r0 r1 r2 r3 r4 y0 y1 y2 y3 y4;obtain⟨g0,g1,g2,g3,g4⟩:=(HD0.out.box 0 _ _ rfl).all5;obtain⟨j0,j1,j2,j3,j4⟩:=(HD0.out.box 0 _ _ rfl).fre5;obtain⟨r0,r1,r2,r3,r4⟩:=(HD0.out.box 1 _ _ rfl).all5;obtain⟨y0,y1,y2,y3,y4⟩:=(HD0.out.box 1 _ _ rfl).fre5;have HD:=Lib.hid ((HD0.out.put 0 _ _ rfl 4 (by simp) (.int .i64 t)));have p2:=HD0.out.two;clear hs hv)))
 have HE:=HD.out.put5 1 w.heap.size _ _ _ _ _ rfl (.int .i64 1) (.string ⟨s.toArray⟩) (.int .i64 d.1) (.int .i64 d.2) (.int .i64 t);obtain⟨x0,x1,x2,x3,x4⟩:=(HE.box 1 w.heap.size _ rfl).all5;refine bodyPost_ret (v:= .agg #[.int .i64 1,.string ⟨s.toArray⟩,.int .i64 d.1,.int .i64 d.2,.int .i64 t]) (by simp[results,Tryz.results95,go_sem,x0,x1,x2,x3,x4]) rfl ?_;exact⟨⟨1,s,d.1,d.2,t⟩,rfl,HR.out s d t _ V1.out V2.out V3.out HE.step⟩
theorem cedge_line (cap:Int) (h:RdC b w A n c l vN ns k 0 sf ms vM) (hz:ckind l k= .ok 2 (k+1) [] []):
  Calls Tryz.prog 95 #[.pointer (some ⟨b,0,none⟩),.int .i64 cap] w fun r w'=>∃ e:EdP,r= .returned (retE e)∧StepC b w A n c l vN ns (cedge l ns cap k).at (cedge l ns cap k).err (sf++(cedge l ns cap k).sfs) ms vM w'∧RsV (cedge l ns cap k) e:=by
 have H:=Lib.hid (Cyc.start h);have KF:FofC 2 ⟨wLine.toArray⟩ 5:=Lib.hid fun w'=>cform_any 2 w'
 generalize (⟨wLine.toArray⟩:ByteArray)=SW at KF;have KK:=kidR_ok (b:=b) (A:=A) (n:=n) (c:=c) (vN:=vN) (ns:=ns) (ms:=ms) (vM:=vM) (sf:=sf) hz;obtain⟨R1,h1⟩:∃ R1,R1=gateR 0 (k+1) (ctext l 2 cap (k+1)):=⟨_,rfl⟩;have K1:=texR b A n c l vN ns ms vM 2 cap (k+1) 0 sf;rw[←h1] at K1;obtain⟨R2,h2⟩:∃ R2,R2=gateR R1.err R1.at (cgoto l ns R1.at):=⟨_,rfl⟩;have K2:=gotR b A n c l vN ns ms vM R1.at R1.err (sf++R1.sfs);rw[←h2] at K2
 have HR:Hid (∀ (s:Bs) (t:Int) (W:World),RsV R1 s→RsV R2 t→StepC b w A n c l vN ns R2.at R2.err ((sf++R1.sfs)++R2.sfs) ms vM W→StepC b w A n c l vN ns (cedge l ns cap k).at (cedge l ns cap k).err (sf++(cedge l ns cap k).sfs) ms vM W∧RsV (cedge l ns cap k) ⟨2,s,0,0,t⟩):=Lib.hid fun s t W hv1 hv2 hW=>by
  have s2:=fin_step (fun t:Int=>(⟨2,s,0,0,t⟩:EdP)) hv2 hW;have g2:R2.then (fun t j1=>Rp.ok (⟨2,s,0,0,t⟩:EdP) j1 [] [])=gateR R1.err R1.at ((cgoto l ns R1.at).then fun t j1=>Rp.ok (⟨2,s,0,0,t⟩:EdP) j1 [] []):=by rw[gate_then,←h2]
  have s1:=two_step (F:=fun s j0=>(cgoto l ns j0).then fun t j1=>Rp.ok (⟨2,s,0,0,t⟩:EdP) j1 [] []) hv1 g2 s2;have g1:R1.then (fun s j0=>(cgoto l ns j0).then fun t j1=>Rp.ok (⟨2,s,0,0,t⟩:EdP) j1 [] [])=cedgeK l ns cap 2 (k+1):=by rw[h1];rfl
  have eR:cedge l ns cap k=R1.then (fun s j0=>(cgoto l ns j0).then fun t j1=>Rp.ok (⟨2,s,0,0,t⟩:EdP) j1 [] []):=by unfold cedge;rw[hz,ok_then0,g1]
  rw[eR];exact s1
 clear h1 h2 h hz;generalize cedge l ns cap k=R at HR ⊢;go_enter Tryz.func95,Tryz.ntmps95
 go_wp2_with (first
  | (go_at_call 120;go_must (((with_reducible refine(KK.out _ (H.out.alloc 39 zeroE (by simp)).rd).mono ?_));rintro e w1 ⟨rfl,hs⟩;have HA:=Lib.hid (((H.out.alloc 39 zeroE (by simp)).call hs).alloc 39 [.int .i64 2,.string ⟨#[]⟩,.int .i64 0,.int .i64 0,.int .i64 0] (by simp));obtain⟨q0,q1,q2,q3⟩:=HA.out.two;obtain⟨g0,g1,g2,g3,g4⟩:=(HA.out.box 0 _ _ rfl).all5;obtain⟨j0,j1,j2,j3,j4⟩:=(HA.out.box 0 _ _ rfl).fre5;obtain⟨r0,r1,r2,r3,r4⟩:=(HA.out.box 1 _ _ rfl).all5;obtain⟨y0,y1,y2,y3,y4⟩:=(HA.out.box 1 _ _ rfl).fre5;clear hs))
  | (go_at_call 72;go_must (((with_reducible refine(KF.out _).mono ?_));rintro e w2 ⟨rfl,rfl⟩))
  | (go_at_call 121;go_must (((with_reducible refine(K1.out _ HA.out.rd).mono ?_));rintro e w3 ⟨s,rfl,hs,hv⟩;have V1:=Lib.hid hv;have HB0:=Lib.hid (HA.out.call hs);clear g0 g1 g2 g3 g4 j0 j1 j2 j3 j4 r0 r1 r2 r3 r4 y0 y1 y2 y3 y4;obtain⟨g0,g1,g2,g3,g4⟩:=(HB0.out.box 0 _ _ rfl).all5;obtain⟨j0,j1,j2,j3,j4⟩:=(HB0.out.box 0 _ _ rfl).fre5;obtain⟨r0,r1,r2,r3,r4⟩:=(HB0.out.box 1 _ _ rfl).all5;obtain⟨y0,y1,y2,y3,y4⟩:=(HB0.out.box 1 _ _ rfl).fre5;have HB:=Lib.hid ((HB0.out.put 0 _ _ rfl 1 (by simp) (.string ⟨s.toArray⟩)));have p0:=HB0.out.two;clear hs hv))
  | (go_at_call 123;go_must (((with_reducible refine(K2.out _ HB.out.rd).mono ?_));rintro e w4 ⟨t,rfl,hs,hv⟩;have V2:=Lib.hid hv;have HC0:=Lib.hid (HB.out.call hs);clear g0 g1 g2 g3 g4 j0 j1 j2 j3 j4 r0 r1 r2 r3 r4 y0 y1 y2 y3 y4;obtain⟨g0,g1,g2,g3,g4⟩:=(HC0.out.box 0 _ _ rfl).all5;obtain⟨j0,j1,j2,j3,j4⟩:=(HC0.out.box 0 _ _ rfl).fre5;obtain⟨r0,r1,r2,r3,r4⟩:=(HC0.out.box 1 _ _ rfl).all5;obtain⟨y0,y1,y2,y3,y4⟩:=(HC0.out.box 1 _ _ rfl).fre5;have HC:=Lib.hid ((HC0.out.put 0 _ _ rfl 4 (by simp) (.int .i64 t)));have p1:=HC0.out.two;clear hs hv)))
 have HE:=HC.out.put5 1 w.heap.size _ _ _ _ _ rfl (.int .i64 2) (.string ⟨s.toArray⟩) (.int .i64 0) (.int .i64 0) (.int .i64 t);obtain⟨x0,x1,x2,x3,x4⟩:=(HE.box 1 w.heap.size _ rfl).all5;refine bodyPost_ret (v:= .agg #[.int .i64 2,.string ⟨s.toArray⟩,.int .i64 0,.int .i64 0,.int .i64 t]) (by simp[results,Tryz.results95,go_sem,x0,x1,x2,x3,x4]) rfl ?_;exact⟨⟨2,s,0,0,t⟩,rfl,HR.out s t _ V1.out V2.out HE.step⟩
theorem cedge_shut (cap:Int) (h:RdC b w A n c l vN ns k 0 sf ms vM) (hz:ckind l k= .ok 3 (k+1) [] []):
  Calls Tryz.prog 95 #[.pointer (some ⟨b,0,none⟩),.int .i64 cap] w fun r w'=>∃ e:EdP,r= .returned (retE e)∧StepC b w A n c l vN ns (cedge l ns cap k).at (cedge l ns cap k).err (sf++(cedge l ns cap k).sfs) ms vM w'∧RsV (cedge l ns cap k) e:=by
 have H:=Lib.hid (Cyc.start h);have KF:FofC 3 ⟨wShut.toArray⟩ 2:=Lib.hid fun w'=>cform_any 3 w'
 generalize (⟨wShut.toArray⟩:ByteArray)=SW at KF;have KK:=kidR_ok (b:=b) (A:=A) (n:=n) (c:=c) (vN:=vN) (ns:=ns) (ms:=ms) (vM:=vM) (sf:=sf) hz;obtain⟨R1,h1⟩:∃ R1,R1=gateR 0 (k+1) (cdels l (k+1)):=⟨_,rfl⟩;have K1:=desR b A n c l vN ns ms vM (k+1) 0 sf;rw[←h1] at K1
 have HR:Hid (∀ (d:Int × Int) (W:World),RsV R1 d→StepC b w A n c l vN ns R1.at R1.err (sf++R1.sfs) ms vM W→StepC b w A n c l vN ns (cedge l ns cap k).at (cedge l ns cap k).err (sf++(cedge l ns cap k).sfs) ms vM W∧RsV (cedge l ns cap k) ⟨3,[],d.1,d.2,0⟩):=Lib.hid fun d W hv1 hW=>by
  have s1:=fin_step (fun d:Int × Int=>(⟨3,[],d.1,d.2,0⟩:EdP)) hv1 hW;have g1:R1.then (fun d j0=>Rp.ok (⟨3,[],d.1,d.2,0⟩:EdP) j0 [] [])=cedgeK l ns cap 3 (k+1):=by rw[h1];rfl
  have eR:cedge l ns cap k=R1.then (fun d j0=>Rp.ok (⟨3,[],d.1,d.2,0⟩:EdP) j0 [] []):=by unfold cedge;rw[hz,ok_then0,g1]
  rw[eR];exact s1
 clear h1 h hz;generalize cedge l ns cap k=R at HR ⊢;go_enter Tryz.func95,Tryz.ntmps95
 go_wp2_with (first
  | (go_at_call 120;go_must (((with_reducible refine(KK.out _ (H.out.alloc 39 zeroE (by simp)).rd).mono ?_));rintro e w1 ⟨rfl,hs⟩;have HA:=Lib.hid (((H.out.alloc 39 zeroE (by simp)).call hs).alloc 39 [.int .i64 3,.string ⟨#[]⟩,.int .i64 0,.int .i64 0,.int .i64 0] (by simp));obtain⟨q0,q1,q2,q3⟩:=HA.out.two;obtain⟨g0,g1,g2,g3,g4⟩:=(HA.out.box 0 _ _ rfl).all5;obtain⟨j0,j1,j2,j3,j4⟩:=(HA.out.box 0 _ _ rfl).fre5;obtain⟨r0,r1,r2,r3,r4⟩:=(HA.out.box 1 _ _ rfl).all5;obtain⟨y0,y1,y2,y3,y4⟩:=(HA.out.box 1 _ _ rfl).fre5;clear hs))
  | (go_at_call 72;go_must (((with_reducible refine(KF.out _).mono ?_));rintro e w2 ⟨rfl,rfl⟩))
  | (go_at_call 122;go_must (((with_reducible refine(K1.out _ HA.out.rd).mono ?_));rintro e w3 ⟨d,rfl,hs,hv⟩;have V1:=Lib.hid hv;have HB0:=Lib.hid (HA.out.call hs);clear g0 g1 g2 g3 g4 j0 j1 j2 j3 j4 r0 r1 r2 r3 r4 y0 y1 y2 y3 y4;obtain⟨g0,g1,g2,g3,g4⟩:=(HB0.out.box 0 _ _ rfl).all5;obtain⟨j0,j1,j2,j3,j4⟩:=(HB0.out.box 0 _ _ rfl).fre5;obtain⟨r0,r1,r2,r3,r4⟩:=(HB0.out.box 1 _ _ rfl).all5;obtain⟨y0,y1,y2,y3,y4⟩:=(HB0.out.box 1 _ _ rfl).fre5;have HB:=Lib.hid (((HB0.out.put 0 _ _ rfl 2 (by simp) (.int .i64 d.1)).put 0 _ _ rfl 3 (by simp) (.int .i64 d.2)));have p0:=HB0.out.two;clear hs hv)))
 have HE:=HB.out.put5 1 w.heap.size _ _ _ _ _ rfl (.int .i64 3) (.string ⟨#[]⟩) (.int .i64 d.1) (.int .i64 d.2) (.int .i64 0);obtain⟨x0,x1,x2,x3,x4⟩:=(HE.box 1 w.heap.size _ rfl).all5;refine bodyPost_ret (v:= .agg #[.int .i64 3,.string ⟨#[]⟩,.int .i64 d.1,.int .i64 d.2,.int .i64 0]) (by simp[results,Tryz.results95,go_sem,x0,x1,x2,x3,x4]) rfl ?_;exact⟨⟨3,[],d.1,d.2,0⟩,rfl,HR.out d _ V1.out HE.step⟩
theorem cedge_none (cap:Int) (h:RdC b w A n c l vN ns k 0 sf ms vM) (hz:ckind l k= .bad k):
  Calls Tryz.prog 95 #[.pointer (some ⟨b,0,none⟩),.int .i64 cap] w fun r w'=>∃ e:EdP,r= .returned (retE e)∧StepC b w A n c l vN ns (cedge l ns cap k).at (cedge l ns cap k).err (sf++(cedge l ns cap k).sfs) ms vM w'∧RsV (cedge l ns cap k) e:=by
 have H:=Lib.hid (Cyc.start h);have KF:FofC 0 ⟨([]:Bs).toArray⟩ 0:=Lib.hid fun w'=>cform_any 0 w'
 generalize (⟨([]:Bs).toArray⟩:ByteArray)=SW at KF;have KK:=kidR_bad (b:=b) (A:=A) (n:=n) (c:=c) (vN:=vN) (ns:=ns) (ms:=ms) (vM:=vM) (sf:=sf) hz;have eR:cedge l ns cap k= .bad k:=by unfold cedge;rw[hz];rfl
 rw[eR];show Calls _ _ _ _ fun r w'=>∃ e:EdP,r= .returned (retE e)∧StepC b w A n c l vN ns k 1 (sf++[]) ms vM w'∧RsV (.bad k) e
 clear eR h hz;go_enter Tryz.func95,Tryz.ntmps95
 go_upto_region 9 with (first
  | (go_at_call 120;go_must (((with_reducible refine(KK.out _ (H.out.alloc 39 zeroE (by simp)).rd).mono ?_));rintro e w1 ⟨rfl,hs⟩;have HA:=Lib.hid (((H.out.alloc 39 zeroE (by simp)).call hs).alloc 39 [.int .i64 0,.string ⟨#[]⟩,.int .i64 0,.int .i64 0,.int .i64 0] (by simp));obtain⟨q0,q1,q2,q3⟩:=HA.out.two;obtain⟨g0,g1,g2,g3,g4⟩:=(HA.out.box 0 _ _ rfl).all5;obtain⟨j0,j1,j2,j3,j4⟩:=(HA.out.box 0 _ _ rfl).fre5;obtain⟨r0,r1,r2,r3,r4⟩:=(HA.out.box 1 _ _ rfl).all5;obtain⟨y0,y1,y2,y3,y4⟩:=(HA.out.box 1 _ _ rfl).fre5;clear hs))
  | (go_at_call 72;go_must (((with_reducible refine(KF.out _).mono ?_));rintro e w2 ⟨rfl,rfl⟩)))
 clear g0 g1 g2 g3 g4 j0 j1 j2 j3 j4 r0 r1 r2 r3 r4 y0 y1 y2 y3 y4 q3;generalize hN:w1.heap.size=q at HA q2 ⊢;generalize hW:w1.alloc (.cells #[.int .i64 0,.string ⟨#[]⟩,.int .i64 0,.int .i64 0,.int .i64 0] 39)=W at HA ⊢;have q4:=HA.out.two.2.2.2;obtain⟨g0,g1,g2,g3,g4⟩:=(HA.out.box 0 _ _ rfl).all5;obtain⟨j0,j1,j2,j3,j4⟩:=(HA.out.box 0 _ _ rfl).fre5;obtain⟨r0,r1,r2,r3,r4⟩:=(HA.out.box 1 _ _ rfl).all5;obtain⟨y0,y1,y2,y3,y4⟩:=(HA.out.box 1 _ _ rfl).fre5;go_wp2;have HE:=HA.out.put5 1 w.heap.size _ _ _ _ _ rfl (.int .i64 0) (.string ⟨#[]⟩) (.int .i64 0) (.int .i64 0) (.int .i64 0);obtain⟨x0,x1,x2,x3,x4⟩:=(HE.box 1 w.heap.size _ rfl).all5;refine bodyPost_ret (v:= .agg #[.int .i64 0,.string ⟨#[]⟩,.int .i64 0,.int .i64 0,.int .i64 0]) (by simp[results,Tryz.results95,go_sem,x0,x1,x2,x3,x4]) rfl ?_;exact⟨⟨0,[],0,0,0⟩,rfl,⟨HE.step.1,HE.step.2.nil⟩,fun y m s g e=>by cases e⟩
theorem cedge_any (cap:Int) (h:RdC b w A n c l vN ns k 0 sf ms vM):
  Calls Tryz.prog 95 #[.pointer (some ⟨b,0,none⟩),.int .i64 cap] w fun r w'=>∃ e:EdP,r= .returned (retE e)∧StepC b w A n c l vN ns (cedge l ns cap k).at (cedge l ns cap k).err (sf++(cedge l ns cap k).sfs) ms vM w'∧RsV (cedge l ns cap k) e:=by
 rcases ckind_cases (l:=l) (k:=k) with hz | hz | hz | hz
 ·exact cedge_emit cap h hz
 ·exact cedge_line cap h hz
 ·exact cedge_shut cap h hz
 ·exact cedge_none cap h hz
end
end
end Go.Proofs.YtdobinjbejagcaaGreatDoor
