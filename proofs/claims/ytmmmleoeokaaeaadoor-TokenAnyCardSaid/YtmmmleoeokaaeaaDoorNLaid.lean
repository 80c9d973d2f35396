import Derived.ProofKit
import Derived.LaidMore
import Derived.OpenShut
import Derived.ShutString
import Derived.Stop.Joined
import Derived.Stop.LaidErr
import Derived.Lib.LaidTab
import Derived.Test.YtmmmleoeokaaeaaDoorNParse
namespace Go.Proofs.YtmmmleoeokaaeaaDoor
open Go Go.RowKit
section
open Go.ChangeShapes Go.WideShapes Go.ChangeAt Go.RowKit
theorem own:ownKnob Tryd.prog.godebug=none:=by kernel_rfl
theorem door_met (os:Os) (args:Array Value):laidMetH Tryd.prog Rows.tokenAnyRow.laid ((World.doorLaid Tryd.prog 400 os).forCall (fun _ _=>0) ⟨#[],args,[]⟩).memory:=
 laidMetH_of_parts3 (fuel:=8) (laidMet_of_run' 8 (by kernel_rfl) (by kernel_rfl)) (by kernel_rfl) (by kernel_rfl)
theorem star: "*"++ "errors.errorString"= "*errors.errorString":=by decide
theorem row78 (u:TypeId) (h:Tryd.prog.typeName? 3 u=some "*errors.errorString"):u=122:=
 typeName_ptr_named (nm:= "errors.errorString") (by rw[star];kernel_rfl) (by kernel_rfl) (by decide) u (by rw[star];exact h)
theorem cells80:Tryd.prog.cellsOf 124=1:=by kernel_rfl
theorem cells9:Tryd.prog.cellsOf 9=1:=by kernel_rfl
theorem cells37:Tryd.prog.cellsOf 69=1:=by kernel_rfl
theorem cells65:Tryd.prog.cellsOf 111=20:=by kernel_rfl
theorem n0:Tryd.prog.globalNamed "internal/strconv.uint64pow10"=some 0:=by kernel_rfl
theorem n1:Tryd.prog.globalNamed "strconv.ErrSyntax"=some 1:=by kernel_rfl
theorem n2:Tryd.prog.globalNamed "strconv.ErrRange"=some 2:=by kernel_rfl
theorem t0:(Tryd.prog.globals[0]?).map (·.type)=some 111:=by kernel_rfl
theorem t1:(Tryd.prog.globals[1]?).map (·.type)=some 85:=by kernel_rfl
theorem t2:(Tryd.prog.globals[2]?).map (·.type)=some 85:=by kernel_rfl
theorem given_of_laid {W:World} (h:laidMetH Tryd.prog Rows.tokenAnyRow.laid W):Given W:=by
 rw[MakeChecks.laidMetH_plain _ _ _ (by kernel_rfl)] at h;have h3:=h.tail.tail;have h4:=h3.tail;have h5:=h4.tail;refine⟨Lib.tabIs_of_head n0 t0 Tryd.underlying111 Tryd.underlying69 cells37 cells65 h3,?_,?_⟩
 ·obtain⟨a,s,hv,_⟩:=laid_sentinel h4 n2 t2 Tryd.underlying85 row78 Tryd.underlying122 Tryd.underlying124 rfl rfl Tryd.underlying9 cells80 cells9
  exact⟨_,_,hv⟩
 ·obtain⟨a,s,hv,_⟩:=laid_sentinel h5 n1 t1 Tryd.underlying85 row78 Tryd.underlying122 Tryd.underlying124 rfl rfl Tryd.underlying9 cells80 cells9
  exact⟨_,_,hv⟩
end
end Go.Proofs.YtmmmleoeokaaeaaDoor
