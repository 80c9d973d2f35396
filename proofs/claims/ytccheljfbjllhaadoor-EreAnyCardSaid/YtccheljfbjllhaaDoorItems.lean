/- The contract of the code's reader of a set's items, for every text of up to a million bytes. -/
import Derived.Test.YtccheljfbjllhaaDoorMem
namespace Go.Proofs.YtccheljfbjllhaaDoor
open Go Go.RowKit

def posS (R : Res (List Sp)) : Nat := match R with | .bad q => q | .ok _ q => q
def okS' (R : Res (List Sp)) : Bool := match R with | .bad _ => false | .ok _ _ => true
def lstS (R : Res (List Sp)) : List Sp := match R with | .bad _ => [] | .ok l _ => l
/-- What the code's reader of items leaves. -/
def PostS (w0 : World) (R : Res (List Sp)) (e : Ending) (w' : World) : Prop :=
  ∃ v, e = .returned (.tuple #[v, .int .i64 (posS R), .bool (okS' R)]) ∧ RowS w0.heap.size w0 w' v (lstS R)
def LoopS (s : ByteArray) (w0 : World) (R : Res (List Sp)) (a v : Value) (w : World) : Prop :=
  ∃ (k : Nat) (acc : List Sp), k ≤ s.size ∧ a = .int .i64 k ∧ goS s.data.toList k acc = R ∧ RowS w0.heap.size w0 w v acc ∧ acc.length ≤ k
end Go.Proofs.YtccheljfbjllhaaDoor
