import Derived.Test.YtdobinjbejagcaaGreatDoorPw4
import Derived.Test.YtdobinjbejagcaaGreatDoorRp6
import Derived.Test.YtdobinjbejagcaaGreatDoorRc15
import Derived.Test.YtdobinjbejagcaaGreatDoorRs2
import Derived.Test.YtdobinjbejagcaaGreatDoorPq9
namespace Go.Proofs.YtdobinjbejagcaaGreatDoor
open Go Go.RowKit
theorem awakeP_all {w:World} (hG:Given w):∀ w',Below w.heap.size w w'→Calls Tryz.prog 6 #[] w' fun r w2=>r= .returned (.bool true)∧Below w'.heap.size w' w2:=fun w' hb=>awakeP_any cparse_any cprint_any csame_any w' (hG.below hb)
theorem pprint_all:PriD:=fun p A c w h hs=>pprint_any p A _ c w h hs
theorem walk_pesames (p q:PeP) (A B:Option Addr) (c d:Nat) (w:World) (h:RdX w.heap.size w A p.places.length p.places) (h':RdX w.heap.size w B q.places.length q.places) (hG:Given w):
  Calls Tryz.prog 5 #[aggPe p A c,aggPe q B d] w fun r w'=>r= .returned (.bool true)∧Below w.heap.size w w':=by
 cases hs:smallPe p with
 | false=>exact samesP_no1 p q A B c d w (awakeP_all hG) h hs
 | true=>exact samesP_yes p q A B c d w csame_any (awakeP_all hG) h h' hs _ rfl
theorem walk_peany (S:ByteArray) (w:World) (hG:Given w):
  Calls Tryz.prog 4 #[.string S] w fun r w'=>r= .returned (.bool true)∧Below w.heap.size w w':=by
 by_cases hs:300<S.size
 ·exact anyP_long S w (awakeP_all hG) hs
 ·exact anyP_short S w cparse_any pparse_any cmay_any hG (fun p h=>mayPe_fit (parse_mayPe h)) (awakeP_all hG) (by omega)
theorem walk_peback (p:PeP) (A:Option Addr) (c:Nat) (w:World) (h:RdX w.heap.size w A p.places.length p.places) (hc:p.places.length≤c) (hG:Given w):
  Calls Tryz.prog 3 #[aggPe p A c] w fun r w'=>r= .returned (.bool true)∧Below w.heap.size w w':=by
 cases hs:smallPe p with
 | false=>exact backP_large p A c w (awakeP_all hG) h hs
 | true=>exact backP_small p A c w cparse_any cprint_any pprint_all cmay_any hG (awakeP_all hG) h hc hs
end Go.Proofs.YtdobinjbejagcaaGreatDoor
