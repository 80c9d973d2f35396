import Derived.Lib.ItoaNum
import Derived.Lib.ParseIntBTie
import Derived.Lib.ParseIntBCases
namespace Go.Proofs.YthghbdeaenjckaaDoor
open Go
section
open Go
def digB (c:UInt8):Bool:=decide (48≤c.toNat) && decide (c.toNat≤57)
def valF (acc:Nat) (l:List UInt8):Nat:=l.foldl (fun a c=>a * 10+(c.toNat - 48)) acc
def valN (l:List UInt8):Nat:=valF 0 l
theorem valN_snoc (l:List UInt8) (c:UInt8):valN (l++[c])=valN l * 10+(c.toNat - 48):=by simp[valN,valF]
theorem dec_small {u:Nat} (h:u<10):Lib.decDigits u=[UInt8.ofNat (48+u)]:=Lib.decDigits_one h
end
end Go.Proofs.YthghbdeaenjckaaDoor
