/- GroupPieces: called with any inputs, where the listed variables of the library lie as their initialisers lay them (the card ties them to the program's text), the statement's function returns true and its inputs read as before. -/
import Derived.Test.YtejgbpbljdhndaaDoorCards
import Derived.Test.YtejgbpbljdhndaaDoorTie
import Derived.SevenTiedAt
import Derived.Test.YtejgbpbljdhndaaDoorLaid
import Derived.Test.YtejgbpbljdhndaaDoorH44
import Derived.Test.YtejgbpbljdhndaaDoorOpenG
namespace Go.Proofs.YtejgbpbljdhndaaDoor.groupPieces
open Go Go.ChangeShapes Go.WideShapes Go.ChangeAt Go.RowKit
open Go.ChangeMaps (open_string shut_string)
set_option linter.unusedVariables false
set_option maxRecDepth 100000 in
theorem lifted (os:Os) (started:os.Started) (H:Type) (enc:TypeId × Value→H):
  ReturnsInHanded {} Tryd.checked os 3 .any (fun w args=>(Rows.groupPiecesSpec.pre enc Tryd.prog Tryd.f3 [] false w args∧laidMetH Tryd.prog Rows.groupPiecesRow.laid w)∧sizedMet enc Tryd.prog Tryd.f3 (OpenSpec.ofChange Rows.groupPiecesSpec) false w args)
   (Rows.groupPiecesSpec.post enc Tryd.prog Tryd.f3 false true false false):=by
 refine returnsInHanded_of_change_and (C:=Tryd.checked) (X:=fun w _=>laidMetH Tryd.prog Rows.groupPiecesRow.laid w) (fun _ _ _ hh h=>h.of_heap hh) own started (by kernel_rfl) Tryd.func3
  (ChangeSpec.witness_shaped (enc:=enc) (C:=Tryd.checked) (os:=os) (X:=fun w _=>laidMetH Tryd.prog Rows.groupPiecesRow.laid w) false (World.doorLaid Tryd.prog 400 os) #[.agg #[.int .i64 0,.int .u64 0,.int .u64 0,.int .u64 0,.int .u64 0,.slice none 0 0,.int .i64 0,.int .i64 0,.int .i64 0],.string ByteArray.empty,.agg #[.int .u8 0,.int .u8 0]] 8 rfl (World.shaped_of_RefB (by kernel_rfl) (by kernel_rfl)) (by kernel_rfl) (by kernel_rfl) (by kernel_rfl) (y13 os _)) ?_
 intro W base args ds gs before hval0 hW _ hsz hL _;have hval:∀ (j:Nat) t v,Tryd.f3.params[j]?=some t→args[j]?=some v→Value.okWide Tryd.prog W .any base t v:=hval0;have hW':=hW;have hlt:∀ x∈before,x.block<W.heap.size:=fun x hx=>hW.lt x hx
 obtain⟨p,q,hA0,hV,rfl,hfz,hnd⟩:=hW;have hA:DataW.TrodAll enc Tryd.prog W 0 (fun _=>true) true Tryd.f3.params.toList args.toList ds p:=hA0;rw[Tryd.params3] at hA hval;obtain⟨v0,vs0,d0,ds0,p0,q0,hargs,rfl,rfl,h0,r0⟩:=trodAll_cons hA;obtain⟨v1,vs1,d1,ds1,p1,q1,rfl,rfl,rfl,h1,r1⟩:=trodAll_cons r0;obtain⟨v2,vs2,d2,ds2,p2,q2,rfl,rfl,rfl,h2,r2⟩:=trodAll_cons r1;obtain⟨rfl,rfl,rfl⟩:=trodAll_nil r2;obtain rfl:args=#[v0,v1,v2]:=by cases args;simp_all
 obtain⟨rfl,rfl⟩:=trodVars_none hV;obtain⟨x0,A0,c0,rfl,hr0⟩:=x2l (hval 0 27 v0 rfl rfl) h0;obtain⟨s1,rfl,rfl,rfl,w1⟩:=open_string Tryd.underlying9 (hval 1 9 v1 rfl rfl) h1;obtain⟨b0,b1,hb0,hb1,rfl⟩:=y7c (hval 2 28 v2 rfl rfl) h2;clear hA0 hval0;simp only[List.append_nil] at hW' hlt;refine(y36 y0q y74 x0 A0 c0 s1 b0 b1 W hr0 hb0 hb1).mono fun e W' ⟨he,hb⟩=>?_
 subst he;refine⟨_,rfl,_,_,_,[],(p0++p2),[],hW',?_,?_,?_,hb.frame _,fun h=>by cases h⟩
 ·exact trodAll_cons_mk (shut_bool Tryd.underlying4 _) trodAll_mk0
 ·have z0:=hb.trod y06 y3k row27 h0 (fun x hx=>hlt x (by simp[hx]))
  have z2:=hb.trod y06 y3d row28 h2 (fun x hx=>hlt x (by simp[hx]));have:=(trodAll_cons_mk z0 (trodAll_cons_mk (shut_string (enc:=enc) (P:=Tryd.prog) (w:=W') (base:=0) (sp:=fun b=>decide (b<W.heap.size)) (held:=true) Tryd.underlying9 w1) (trodAll_cons_mk z2 trodAll_mk0)));simp only[List.append_nil,List.nil_append] at this ⊢;exact this
 ·rfl
theorem over:Rows.GroupPiecesSaid:=
 OpenClaim.holds_of_wide 3 Tryd.f3 rfl rfl rfl rfl rfl rfl rfl ⟨rfl,rfl,rfl,rfl,rfl⟩ rfl rfl rfl rfl rfl (by kernel_rfl) Tryd.func3 (by kernel_rfl)
  (of_decide_eq_true (by kernel_rfl)) (by unfold Func.isWrapper;first | (rw[if_pos (by decide+kernel)];kernel_rfl) | (rw[if_neg (by decide+kernel)];exact⟨rfl,rfl⟩))
  (fun os started H enc _=>lifted os started H enc)
theorem proved:Rows.GroupPiecesCardSaid:=
 Claim7.holds_tied_plain_at .later [] [.data,.data,.data] true (true,"a5451d24146b01eb350df85792172b5ce129fbe938a66289cffd7573cb7440aa") false
  over (fun _ h=>by cases h) (by kernel_rfl) (fun _ h=>by cases h) groupPieces_row_tie rfl ⟨rfl,rfl⟩ (by kernel_rfl) rfl
  (fun f fn hf hfn=>by
   obtain rfl:f=3:=Option.some.inj ((show Tryd.prog.funcNamed "souffleur/souffleurlaw06.GroupPieces"=some 3 by kernel_rfl).symm.trans hf) |>.symm;obtain rfl:fn=Tryd.f3:=(Option.some.inj (Tryd.func3.symm.trans hfn)).symm
   exact⟨by kernel_rfl,fun j t ht=>by
    rw[Tryd.params3] at ht;have hm:t∈[27,9,28]:=by simpa using Array.mem_of_getElem? ht
    have hall:([27,9,28].all fun u=> !Tryd.prog.wantsStandIn u)=true:=by kernel_rfl
    exact(show Tryd.prog.wantsStandIn t=false by simpa using List.all_eq_true.1 hall t hm)⟩)
  (by kernel_rfl)
end Go.Proofs.YtejgbpbljdhndaaDoor.groupPieces
