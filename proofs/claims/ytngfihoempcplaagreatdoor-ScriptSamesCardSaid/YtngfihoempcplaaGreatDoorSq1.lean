import Derived.Test.YtngfihoempcplaaGreatDoorQBelow
namespace Go.Proofs.YtngfihoempcplaaGreatDoor
open Go Go.RowKit
theorem later_bw {P:Program} {f:FuncId} {args:Array Value} {v:Value} {w W:World} (h:∀ w',Below w.heap.size w w'→Calls P f args w' fun e w2=>e= .returned v∧Below w'.heap.size w' w2) (hb:Below w.heap.size w W) (n:Bw W):
 Calls P f args n.at fun e w''=>e= .returned v∧∃ m:Bw W,w''=m.at:=bw_calls (h n.at (hb.trans (n.2.mono hb.size)))
theorem all_bw {P:Program} {f:FuncId} {args:Array Value} {v:Value} {W:World} (h:∀ w',Calls P f args w' fun e w2=>e= .returned v∧Below w'.heap.size w' w2) (n:Bw W):
 Calls P f args n.at fun e w''=>e= .returned v∧∃ m:Bw W,w''=m.at:=bw_calls (h n.at)
theorem same_bw {P:Program} {f:FuncId} {args:Array Value} {v:Value} {W:World} (h:∀ w',Calls P f args w' fun e w2=>e= .returned v∧w'=w2) (n:Bw W):
 Calls P f args n.at fun e w''=>e= .returned v∧∃ m:Bw W,w''=m.at:=(h n.at).mono fun _ _ ⟨he,hw⟩=>⟨he,n,hw.symm⟩
end Go.Proofs.YtngfihoempcplaaGreatDoor
