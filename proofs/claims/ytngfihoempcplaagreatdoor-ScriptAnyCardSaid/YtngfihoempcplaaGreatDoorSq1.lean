import Derived.Test.YtngfihoempcplaaGreatDoorQRead
import Derived.Test.YtngfihoempcplaaGreatDoorSc9
namespace Go.Proofs.YtngfihoempcplaaGreatDoor
open Go Go.RowKit
theorem z1r {P:Program} {f:FuncId} {args:Array Value} {v:Value} {w W:World} (h:∀ w',Below w.heap.size w w'→Calls P f args w' fun e w2=>e= .returned v∧Below w'.heap.size w' w2) (hb:Below w.heap.size w W) (n:Bw W):
 Calls P f args n.at fun e w''=>e= .returned v∧∃ m:Bw W,w''=m.at:=z4s (h n.at (hb.trans (n.2.mono hb.size)))
theorem z2k {P:Program} {f:FuncId} {args:Array Value} {v:Value} {W:World} (h:∀ w',Calls P f args w' fun e w2=>e= .returned v∧Below w'.heap.size w' w2) (n:Bw W):
 Calls P f args n.at fun e w''=>e= .returned v∧∃ m:Bw W,w''=m.at:=z4s (h n.at)
theorem z3i {P:Program} {f:FuncId} {args:Array Value} {v:Value} {W:World} (h:∀ w',Calls P f args w' fun e w2=>e= .returned v∧w'=w2) (n:Bw W):
 Calls P f args n.at fun e w''=>e= .returned v∧∃ m:Bw W,w''=m.at:=(h n.at).mono fun _ _ ⟨he,hw⟩=>⟨he,n,hw.symm⟩
theorem bw13 {W:World} {c:Nat} {v0 v1 v2 v3 v4 v5 v6 v7 v8 v9 v10 v11 v12:Value} (h:BoxL W c [v0,v1,v2,v3,v4,v5,v6,v7,v8,v9,v10,v11,v12]):(∀ n:Bw W,n.at.cell? ⟨c,0,none⟩=some v0)∧(∀ n:Bw W,n.at.cell? ⟨c,1,none⟩=some v1)∧(∀ n:Bw W,n.at.cell? ⟨c,2,none⟩=some v2)∧(∀ n:Bw W,n.at.cell? ⟨c,3,none⟩=some v3)∧(∀ n:Bw W,n.at.cell? ⟨c,4,none⟩=some v4)∧(∀ n:Bw W,n.at.cell? ⟨c,5,none⟩=some v5)∧(∀ n:Bw W,n.at.cell? ⟨c,6,none⟩=some v6)∧(∀ n:Bw W,n.at.cell? ⟨c,7,none⟩=some v7)∧(∀ n:Bw W,n.at.cell? ⟨c,8,none⟩=some v8)∧(∀ n:Bw W,n.at.cell? ⟨c,9,none⟩=some v9)∧(∀ n:Bw W,n.at.cell? ⟨c,10,none⟩=some v10)∧(∀ n:Bw W,n.at.cell? ⟨c,11,none⟩=some v11)∧(∀ n:Bw W,n.at.cell? ⟨c,12,none⟩=some v12):=
 have ⟨y0,y1,y2,y3,y4,y5,y6,y7,y8,y9,y10,y11,y12⟩:=h.all13
 ⟨z06 y0,z06 y1,z06 y2,z06 y3,z06 y4,z06 y5,z06 y6,z06 y7,z06 y8,z06 y9,z06 y10,z06 y11,z06 y12⟩
end Go.Proofs.YtngfihoempcplaaGreatDoor
