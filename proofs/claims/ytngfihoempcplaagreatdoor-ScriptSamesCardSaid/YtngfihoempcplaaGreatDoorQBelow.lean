import Derived.BigQuiet
import Derived.Below
namespace Go.Proofs.YtngfihoempcplaaGreatDoor
open Go Go.RowKit
section
def Bw (w:World):Type:={x:World // Below w.heap.size w x}
theorem bw_some (w:World):Nonempty (Bw w):=⟨⟨w,Below.refl _ _⟩⟩
def Bw.at {w:World} (n:Bw w):World:=n.1
section
variable {P:Program} {w:World}
theorem wp_region_below {id:Nat} {Q:Exit→Act→World→Prop} {a:Act} {l:List Oper} (hm:P.follows .mixedOrders=true) (hB:Region.lexB .any l.toArray=true)
  (h:wpQuiet P l.toArray (fun w'=>∃ n:Bw w,w'=n.at) (fun a'=>∀ w',(∃ n:Bw w,w'=n.at)→Q .normal a' w') l a):(Code.region id l.toArray true).wp P Q a w:=
 wp_region_quiet (C:=fun w'=>∃ n:Bw w,w'=n.at) hm hB ⟨⟨w.drew,(Below.refl _ _).drew⟩,rfl⟩ (by simpa using h)
theorem bw_calls {f:FuncId} {args:Array Value} {v:Value} {n:Bw w} (h:Calls P f args n.at fun e w''=>e= .returned v∧Below n.at.heap.size n.at w''):
  Calls P f args n.at fun e w''=>e= .returned v∧∃ m:Bw w,w''=m.at:=
 h.mono fun _ w'' ⟨he,hb⟩=>⟨he,⟨w'',n.2.trans (hb.mono n.2.size)⟩,rfl⟩
end
theorem bw_cell {w:World} {a:Addr} {v:Value} (h:w.cell? a=some v) (n:Bw w):n.at.cell? a=some v:=(n.2.cell (World.block_lt_of_cell? w _ h)).trans h
end
end Go.Proofs.YtngfihoempcplaaGreatDoor
