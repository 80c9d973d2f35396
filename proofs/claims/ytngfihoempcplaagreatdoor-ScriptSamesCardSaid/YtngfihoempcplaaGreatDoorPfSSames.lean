/- ScriptSames: called with any inputs, where the listed variables of the library lie as their initialisers lay them (the card ties them to the program's text), the statement's function returns true and its inputs read as before (made by tools/gen_script_pf.py). -/
import Derived.Test.YtngfihoempcplaaGreatDoorCards
import Derived.Test.YtngfihoempcplaaGreatDoorTie
import Derived.SevenTiedAt
import Derived.Test.YtngfihoempcplaaGreatDoorNLaid
import Derived.Test.YtngfihoempcplaaGreatDoorSc44
import Derived.Test.YtngfihoempcplaaGreatDoorOpenC
namespace Go.Proofs.YtngfihoempcplaaGreatDoor.scriptSames
open Go Go.ChangeShapes Go.WideShapes Go.ChangeAt Go.RowKit
open Go.ChangeMaps (open_string shut_string)
set_option linter.unusedVariables false
set_option maxRecDepth 100000 in
theorem lifted (os:Os) (started:os.Started) (H:Type) (enc:TypeId × Value→H):
  ReturnsInHanded {} Tryz.checked os 4 .any (fun w args=>(Rows.scriptSamesSpec.pre enc Tryz.prog Tryz.f4 [] false w args∧laidMetH Tryz.prog Rows.scriptSamesRow.laid w)∧sizedMet enc Tryz.prog Tryz.f4 (OpenSpec.ofChange Rows.scriptSamesSpec) false w args)
   (Rows.scriptSamesSpec.post enc Tryz.prog Tryz.f4 false true false false):=by
 refine returnsInHanded_of_change_and (C:=Tryz.checked) (X:=fun w _=>laidMetH Tryz.prog Rows.scriptSamesRow.laid w) (fun _ _ _ hh h=>h.of_heap hh) own started (by kernel_rfl) Tryz.func4
  (ChangeSpec.witness_shaped (enc:=enc) (C:=Tryz.checked) (os:=os) (X:=fun w _=>laidMetH Tryz.prog Rows.scriptSamesRow.laid w) false (World.doorLaid Tryz.prog 400 os) #[.slice none 0 0,.slice none 0 0] 8 rfl (World.shaped_of_RefB (by kernel_rfl) (by kernel_rfl)) (by kernel_rfl) (by kernel_rfl) (by kernel_rfl) (door_met os _)) ?_
 intro W base args ds gs before hval0 hW _ hsz hL _;have hval:∀ (j:Nat) t v,Tryz.f4.params[j]?=some t→args[j]?=some v→Value.okWide Tryz.prog W .any base t v:=hval0;have hW':=hW;have hlt:∀ x∈before,x.block<W.heap.size:=fun x hx=>hW.lt x hx
 obtain⟨p,q,hA0,hV,rfl,hfz,hnd⟩:=hW;have hA:DataW.TrodAll enc Tryz.prog W 0 (fun _=>true) true Tryz.f4.params.toList args.toList ds p:=hA0;rw[Tryz.params4] at hA hval;obtain⟨v0,vs0,d0,ds0,p0,q0,hargs,rfl,rfl,h0,r0⟩:=trodAll_cons hA;obtain⟨v1,vs1,d1,ds1,p1,q1,rfl,rfl,rfl,h1,r1⟩:=trodAll_cons r0;obtain⟨rfl,rfl,rfl⟩:=trodAll_nil r1;obtain rfl:args=#[v0,v1]:=by cases args;simp_all
 obtain⟨rfl,rfl⟩:=trodVars_none hV;obtain⟨A0,x0,c0,rfl,hr0⟩:=open_cmds (hval 0 23 v0 rfl rfl) h0;obtain⟨A1,x1,c1,rfl,hr1⟩:=open_cmds (hval 1 23 v1 rfl rfl) h1;clear hA0 hval0;simp only[List.append_nil] at hW' hlt;refine(walk_samesT x0 x1 A0 A1 c0 c1 W hr0 hr1 (given_of_laid hL)).mono fun e W' ⟨he,hb⟩=>?_
 subst he;refine⟨_,rfl,_,_,_,[],(p0++p1),[],hW',?_,?_,?_,hb.frame _,fun h=>by cases h⟩
 ·exact trodAll_cons_mk (shut_bool Tryz.underlying4 _) trodAll_mk0
 ·have z0:=hb.trod laidOutC readableC rowCT h0 (fun x hx=>hlt x (by simp[hx]))
  have z1:=hb.trod laidOutC readableC rowCT h1 (fun x hx=>hlt x (by simp[hx]));have:=(trodAll_cons_mk z0 (trodAll_cons_mk z1 trodAll_mk0));simp only[List.append_nil] at this ⊢;exact this
 ·rfl
theorem over:Rows.ScriptSamesSaid:=
 OpenClaim.holds_of_wide 4 Tryz.f4 rfl rfl rfl rfl rfl rfl rfl ⟨rfl,rfl,rfl,rfl,rfl⟩ rfl rfl rfl rfl rfl (by kernel_rfl) Tryz.func4 (by kernel_rfl)
  (of_decide_eq_true (by kernel_rfl)) (by unfold Func.isWrapper;first | (rw[if_pos (by decide+kernel)];kernel_rfl) | (rw[if_neg (by decide+kernel)];exact⟨rfl,rfl⟩))
  (fun os started H enc _=>lifted os started H enc)
theorem proved:Rows.ScriptSamesCardSaid:=
 Claim7.holds_tied_plain_at .later [] [.data,.data,.data,.sentinel,.sentinel] true (true,"f647c8ed5fe02a142627244109e2183d432226e9b852ab92615048f5a5ab5799") true
  over (fun _ h=>by cases h) (by kernel_rfl) (fun _ h=>by cases h) scriptSames_row_tie rfl ⟨rfl,rfl⟩ (by kernel_rfl) rfl
  (fun f fn hf hfn=>by
   obtain rfl:f=4:=Option.some.inj ((show Tryz.prog.funcNamed "souffleur/souffleurlaw10.ScriptSames"=some 4 by kernel_rfl).symm.trans hf) |>.symm;obtain rfl:fn=Tryz.f4:=(Option.some.inj (Tryz.func4.symm.trans hfn)).symm
   exact⟨by kernel_rfl,fun j t ht=>by
    rw[Tryz.params4] at ht;have hm:t∈[23,23]:=by simpa using Array.mem_of_getElem? ht
    have hall:([23,23].all fun u=> !Tryz.prog.wantsStandIn u)=true:=by kernel_rfl
    exact(show Tryz.prog.wantsStandIn t=false by simpa using List.all_eq_true.1 hall t hm)⟩)
  (by kernel_rfl)
end Go.Proofs.YtngfihoempcplaaGreatDoor.scriptSames
