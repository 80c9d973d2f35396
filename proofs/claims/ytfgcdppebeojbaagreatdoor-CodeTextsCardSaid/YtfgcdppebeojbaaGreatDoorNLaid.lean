import Derived.ProofKit
import Derived.LaidMore
import Derived.OpenShut
import Derived.ShutString
import Derived.Stop.Joined
import Derived.Stop.LaidErr
import Derived.Lib.LaidTab
import Derived.Test.YtfgcdppebeojbaaGreatDoorNBoth
namespace Go.Proofs.YtfgcdppebeojbaaGreatDoor
open Go Go.RowKit
section
open Go.ChangeShapes Go.WideShapes Go.ChangeAt Go.RowKit
theorem own:ownKnob Tryz.prog.godebug=none:=by kernel_rfl
theorem door_met (os:Os) (args:Array Value):laidMetH Tryz.prog Rows.codeTextsRow.laid ((World.doorLaid Tryz.prog 400 os).forCall (fun _ _=>0) ⟨#[],args,[]⟩).memory:=
 laidMetH_of_parts3 (fuel:=8) (laidMet_of_run' 8 (by kernel_rfl) (by kernel_rfl)) (by kernel_rfl) (by kernel_rfl)
theorem cells37:Tryz.prog.cellsOf 115=1:=by kernel_rfl
theorem cells65:Tryz.prog.cellsOf 208=20:=by kernel_rfl
theorem n0:Tryz.prog.globalNamed "internal/strconv.uint64pow10"=some 1:=by kernel_rfl
theorem t0:(Tryz.prog.globals[1]?).map (·.type)=some 208:=by kernel_rfl
theorem given_of_laid {W:World} (h:laidMetH Tryz.prog Rows.codeTextsRow.laid W):Given W:=by
 rw[MakeChecks.laidMetH_plain _ _ _ (by kernel_rfl)] at h;have h3:=h.tail.tail;exact Lib.tabIs_of_head n0 t0 Tryz.underlying208 Tryz.underlying115 cells37 cells65 h3
end
end Go.Proofs.YtfgcdppebeojbaaGreatDoor
