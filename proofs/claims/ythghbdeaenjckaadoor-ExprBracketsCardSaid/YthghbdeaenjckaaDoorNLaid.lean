import Derived.ProofKit
import Derived.LaidMore
import Derived.OpenShut
import Derived.ShutString
import Derived.Stop.Joined
import Derived.Stop.LaidErr
import Derived.Lib.LaidTab
import Derived.Test.YthghbdeaenjckaaDoorNParse
namespace Go.Proofs.YthghbdeaenjckaaDoor
open Go Go.RowKit
section
open Go.ChangeShapes Go.WideShapes Go.ChangeAt Go.RowKit
theorem own:ownKnob Tryd.prog.godebug=none:=by kernel_rfl
theorem door_met (os:Os) (args:Array Value):laidMetH Tryd.prog Rows.exprBracketsRow.laid ((World.doorLaid Tryd.prog 400 os).forCall (fun _ _=>0) ⟨#[],args,[]⟩).memory:=
 laidMetH_of_parts3 (fuel:=8) (laidMet_of_run' 8 (by kernel_rfl) (by kernel_rfl)) (by kernel_rfl) (by kernel_rfl)
theorem cells37:Tryd.prog.cellsOf 74=1:=by kernel_rfl
theorem cells65:Tryd.prog.cellsOf 128=20:=by kernel_rfl
theorem n0:Tryd.prog.globalNamed "internal/strconv.uint64pow10"=some 0:=by kernel_rfl
theorem t0:(Tryd.prog.globals[0]?).map (·.type)=some 128:=by kernel_rfl
theorem given_of_laid {W:World} (h:laidMetH Tryd.prog Rows.exprBracketsRow.laid W):Given W:=by
 rw[MakeChecks.laidMetH_plain _ _ _ (by kernel_rfl)] at h;have h3:=h.tail.tail;exact Lib.tabIs_of_head n0 t0 Tryd.underlying128 Tryd.underlying74 cells37 cells65 h3
end
end Go.Proofs.YthghbdeaenjckaaDoor
