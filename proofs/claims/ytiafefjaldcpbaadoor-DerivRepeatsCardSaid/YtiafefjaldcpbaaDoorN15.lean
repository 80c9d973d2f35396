import Derived.Test.YtiafefjaldcpbaaDoorN14
import Derived.Test.YtiafefjaldcpbaaDoorGoes
namespace Go.Proofs.YtiafefjaldcpbaaDoor
open Go Go.RowKit
section
theorem matB_lang (R:Re) (t:Bs):matB R t=true ↔ RightP R∧Lang R t:=by rw[matB_iff,way_all]
theorem Box9.keep {w w':World} {c:Nat} {v0 v1 v2 v3 v4 v5 v6 v7 v8:Value} (h:Box9 w c v0 v1 v2 v3 v4 v5 v6 v7 v8) (hb:Below w.heap.size w w'):Box9 w' c v0 v1 v2 v3 v4 v5 v6 v7 v8:=h.grown (b:=c+1) (grown_below hb) (by omega)
section
variable {a b s:ByteArray} {w:World}
end
end
end Go.Proofs.YtiafefjaldcpbaaDoor
