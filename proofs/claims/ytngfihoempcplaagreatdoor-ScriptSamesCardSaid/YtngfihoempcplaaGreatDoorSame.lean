import Derived.Laws.StructEq
import Derived.RegionTactic
import Derived.ChangeAlike
import Derived.Test.YtngfihoempcplaaGreatDoorRd
namespace Go.Proofs.YtngfihoempcplaaGreatDoor
open Go Go.RowKit
theorem under33:Tryz.prog.underlying 81=some (.struct (Tryz.prog.fieldsOf 81)):=by kernel_rfl
theorem held33:Tryz.prog.stoodInHeld 81=false:=by kernel_rfl
theorem fields33:(Tryz.prog.fieldsOf 81).toList.map (fun f=>(f.name,f.type,f.offset))=[("Name",9,0),("Text",9,1)]:=by kernel_rfl
end Go.Proofs.YtngfihoempcplaaGreatDoor
