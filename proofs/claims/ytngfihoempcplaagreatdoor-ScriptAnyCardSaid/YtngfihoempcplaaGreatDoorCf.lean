import Derived.Lib.Hide
import Derived.Test.YtngfihoempcplaaGreatDoorProg
namespace Go.Proofs.YtngfihoempcplaaGreatDoor
open Go Go.RowKit
structure OZ
structure OS
def oZ:OZ:={}
def oS:OS:={}
instance:Coe OZ Value:=⟨fun _=>.int .i64 0⟩
instance:Coe OS Value:=⟨fun _=>.string ⟨#[]⟩⟩
instance:Coe Unit Value:=⟨fun _=>.slice none 0 0⟩
instance:Coe Int Value:=⟨.int .i64⟩
instance:Coe Nat Value:=⟨fun n=>.int .i64 (n:Int)⟩
instance:Coe ByteArray Value:=⟨.string⟩
instance:Coe Bool Value:=⟨.bool⟩
structure PP
structure II
def pP (_:Nat):PP:={}
def iI (_:Int):II:={}
instance (b:Nat):CoeDep PP (pP b) Value:=⟨.pointer (some ⟨b,0,none⟩)⟩
instance (z:Int):CoeDep II (iI z) Value:=⟨.int .i64 z⟩
theorem zz {p:Prop} (h:p):RowKit.Hid p:=Lib.hid h
abbrev Cz:=Calls Tryz.prog
theorem nR {n:Nat}:n≤n:=Nat.le_refl n
theorem bR {b:Nat} {w:World}:Below b w w:=Below.refl b w
abbrev OA:=Option Addr
abbrev BA:=ByteArray
instance:Coe (List UInt8) Value:=⟨fun s=>.string ⟨s.toArray⟩⟩
end Go.Proofs.YtngfihoempcplaaGreatDoor
