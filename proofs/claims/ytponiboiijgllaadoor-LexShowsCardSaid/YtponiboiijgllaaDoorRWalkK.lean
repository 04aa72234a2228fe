/- A text that holds a list of bytes is that list. No condition. -/
import Derived.Test.YtponiboiijgllaaDoorRWalkI
import Derived.Handy
namespace Go.Proofs.YtponiboiijgllaaDoor
open Go.RowKit
set_option maxRecDepth 100000
theorem text_of {t : ByteArray} {l : List UInt8} (h : t.data.toList = l) : t = ⟨l.toArray⟩ := by
  rw [← h]
theorem drewN_ok {B : Nat} {a w : World} (h : Below B a w) (n : Nat) : Below B a (w.drewN n) := h.trans ⟨rfl, rfl, rfl, Nat.le_refl _, fun _ _ => rfl⟩
end Go.Proofs.YtponiboiijgllaaDoor
