/- Plain facts for awake. -/
import Derived.Test.YtccheljfbjllhaaDoorPlain
import Derived.Test.YtccheljfbjllhaaDoorPrint2
import Derived.Test.YtccheljfbjllhaaDoorSame
namespace Go.Proofs.YtccheljfbjllhaaDoor
open Go Go.RowKit
theorem wake_form : form rWake 3 0 0 = some 1 := by decide +kernel
theorem wake_text : textE rWake = sWake := by decide +kernel
theorem wake_print : printE rWake = (⟨sWake.toArray⟩, 0) := by
  unfold printE
  rw [wake_form, wake_text]
  rfl
theorem wake_groups : groups rWake = 1 := by decide +kernel
theorem wake_size : sizeE rWake = 7 := by decide +kernel
end Go.Proofs.YtccheljfbjllhaaDoor
