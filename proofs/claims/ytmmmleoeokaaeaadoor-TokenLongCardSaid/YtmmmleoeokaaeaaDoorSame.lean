import Derived.Laws.StructEq
import Derived.RegionTactic
import Derived.ChangeAlike
import Derived.Test.YtmmmleoeokaaeaaDoorRd
namespace Go.Proofs.YtmmmleoeokaaeaaDoor
open Go Go.RowKit
theorem under33:Tryd.prog.underlying 59=some (.struct (Tryd.prog.fieldsOf 59)):=by kernel_rfl
theorem held33:Tryd.prog.stoodInHeld 59=false:=by kernel_rfl
theorem fields33:(Tryd.prog.fieldsOf 59).toList.map (fun f=>(f.name,f.type,f.offset))=[("Name",9,0),("Text",9,1)]:=by kernel_rfl
end Go.Proofs.YtmmmleoeokaaeaaDoor
