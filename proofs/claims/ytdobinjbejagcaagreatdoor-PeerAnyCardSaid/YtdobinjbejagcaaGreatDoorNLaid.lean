import Derived.ProofKit
import Derived.LaidMore
import Derived.OpenShut
import Derived.ShutString
import Derived.Stop.Joined
import Derived.Stop.LaidErr
import Derived.Lib.LaidTab
import Derived.Test.YtdobinjbejagcaaGreatDoorNRPrint
namespace Go.Proofs.YtdobinjbejagcaaGreatDoor
open Go Go.RowKit
section
open Go.ChangeShapes Go.WideShapes Go.ChangeAt Go.RowKit
theorem own:ownKnob Tryz.prog.godebug=none:=by kernel_rfl
theorem door_met (os:Os) (args:Array Value):laidMetH Tryz.prog Rows.peerBackRow.laid ((World.doorLaid Tryz.prog 400 os).forCall (fun _ _=>0) ⟨#[],args,[]⟩).memory:=
 laidMetH_of_parts3 (fuel:=8) (laidMet_of_run' 8 (by kernel_rfl) (by kernel_rfl)) (by kernel_rfl) (by kernel_rfl)
theorem star: "*"++ "errors.errorString"= "*errors.errorString":=by decide
theorem row78 (u:TypeId) (h:Tryz.prog.typeName? 3 u=some "*errors.errorString"):u=212:=
 typeName_ptr_named (nm:= "errors.errorString") (by rw[star];kernel_rfl) (by kernel_rfl) (by decide) u (by rw[star];exact h)
theorem cells80:Tryz.prog.cellsOf 214=1:=by kernel_rfl
theorem cells9:Tryz.prog.cellsOf 9=1:=by kernel_rfl
theorem cells37:Tryz.prog.cellsOf 116=1:=by kernel_rfl
theorem cells65:Tryz.prog.cellsOf 190=20:=by kernel_rfl
theorem n0:Tryz.prog.globalNamed "internal/strconv.uint64pow10"=some 0:=by kernel_rfl
theorem n1:Tryz.prog.globalNamed "strconv.ErrSyntax"=some 2:=by kernel_rfl
theorem n2:Tryz.prog.globalNamed "strconv.ErrRange"=some 3:=by kernel_rfl
theorem t0:(Tryz.prog.globals[0]?).map (·.type)=some 190:=by kernel_rfl
theorem t1:(Tryz.prog.globals[2]?).map (·.type)=some 171:=by kernel_rfl
theorem t2:(Tryz.prog.globals[3]?).map (·.type)=some 171:=by kernel_rfl
theorem given_of_laid {W:World} (h:laidMetH Tryz.prog Rows.peerBackRow.laid W):Given W:=by
 rw[MakeChecks.laidMetH_plain _ _ _ (by kernel_rfl)] at h;have h3:=h.tail.tail;have h4:=h3.tail;have h5:=h4.tail;refine⟨Lib.tabIs_of_head n0 t0 Tryz.underlying190 Tryz.underlying116 cells37 cells65 h3,?_,?_⟩
 ·obtain⟨a,s,hv,_⟩:=laid_sentinel h4 n2 t2 Tryz.underlying171 row78 Tryz.underlying212 Tryz.underlying214 rfl rfl Tryz.underlying9 cells80 cells9
  exact⟨_,_,hv⟩
 ·obtain⟨a,s,hv,_⟩:=laid_sentinel h5 n1 t1 Tryz.underlying171 row78 Tryz.underlying212 Tryz.underlying214 rfl rfl Tryz.underlying9 cells80 cells9
  exact⟨_,_,hv⟩
end
end Go.Proofs.YtdobinjbejagcaaGreatDoor
