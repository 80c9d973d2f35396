import Derived.Laws.StructEq
import Derived.RegionTactic
import Derived.ChangeAlike
import Derived.Test.YtmmmleoeokaaeaaGreatDoorRd
namespace Go.Proofs.YtmmmleoeokaaeaaGreatDoor
open Go Go.RowKit
theorem under33:Tryz.prog.underlying 39=some (.struct (Tryz.prog.fieldsOf 39)):=by kernel_rfl
theorem held33:Tryz.prog.stoodInHeld 39=false:=by kernel_rfl
theorem fields33:(Tryz.prog.fieldsOf 39).toList.map (fun f=>(f.name,f.type,f.offset))=[("Name",9,0),("Text",9,1)]:=by kernel_rfl
end Go.Proofs.YtmmmleoeokaaeaaGreatDoor
