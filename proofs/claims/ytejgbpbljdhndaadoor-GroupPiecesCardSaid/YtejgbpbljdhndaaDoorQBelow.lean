import Derived.BigQuiet
import Derived.Below
namespace Go.Proofs.YtejgbpbljdhndaaDoor
open Go Go.RowKit
section
section
variable {P:Program} {w:World}
end
end
end Go.Proofs.YtejgbpbljdhndaaDoor
