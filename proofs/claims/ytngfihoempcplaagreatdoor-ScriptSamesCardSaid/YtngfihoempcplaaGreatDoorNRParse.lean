import Derived.Test.YtngfihoempcplaaGreatDoorNRefs
import Derived.Test.YtngfihoempcplaaGreatDoorNText
import Derived.Test.YtngfihoempcplaaGreatDoorDigits
namespace Go.Proofs.YtngfihoempcplaaGreatDoor
open Go Go.RowKit
section
set_option linter.unusedVariables false
theorem isD_eq (c:UInt8):isD c=digB c:=by
 unfold isD digB;rw[Bool.eq_iff_iff];simp;omega
def specD (d:List UInt8) (neg:Bool) (n e:Int):Prop:=
 if d.all digB=true then ∃ v:Int,v=(if neg=true then -(valN d:Int) else (valN d:Int))∧(if -9223372036854775808≤v∧v≤9223372036854775807 then n=v∧e=0 else n=0∧e=3) else n=0∧e=1
end
end Go.Proofs.YtngfihoempcplaaGreatDoor
