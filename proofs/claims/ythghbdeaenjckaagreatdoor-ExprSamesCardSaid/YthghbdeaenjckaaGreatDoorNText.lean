import Derived.Test.YthghbdeaenjckaaGreatDoorNSums
import Derived.Test.YthghbdeaenjckaaGreatDoorShelf
namespace Go.Proofs.YthghbdeaenjckaaGreatDoor
open Go Go.RowKit
def isD (c:UInt8):Bool:=decide (48≤(c.toNat:Int)∧(c.toNat:Int)≤57)
def negL (l:List UInt8):Bool:=Lib.hasPrefix l [45]
def digL (l:List UInt8):List UInt8:=Lib.trimPrefix l [45]
def formD (d:List UInt8) (neg:Bool):Bool:=match d with
 | []=>false
 | c::r=>if c=48 then r.isEmpty && !neg else (c::r).all isD
def formL (l:List UInt8):Bool:=formD (digL l) (negL l)
theorem take_snoc (s:ByteArray) (k:Nat) (h:k<s.size):s.data.toList.take (k+1)=s.data.toList.take k++[s[k]]:=by
 rw[List.take_succ_eq_append_getElem (by simpa using h)];rfl
theorem all_no (s:ByteArray) (k:Nat) (h:k<s.size) (p:UInt8→Bool) (hp:p s[k]=false):s.data.toList.all p=false:=by
 rw[List.all_eq_false];exact⟨s[k],by show s.data[k]∈_;simp,by simp[hp]⟩
end Go.Proofs.YthghbdeaenjckaaGreatDoor
