/- The document's two examples hold (awake answers true); any rune's class is the reference's (RunesClass answers true). No condition. -/
import Derived.Test.YtponiboiijgllaaDoorRWalkE
namespace Go.Proofs.YtponiboiijgllaaDoor
open Go.RowKit
set_option maxRecDepth 100000

theorem quote_one : quoteL [97, 34, 255] = [34, 97, 92, 34, 92, 120, 102, 102, 34] := by
  unfold quoteL bodyL
  rw [segs_cons (by simp)]
  rw [show List.drop (decL [97, 34, 255]).2 ([97, 34, 255] : List UInt8) = [34, 255] from rfl]
  rw [segs_cons (by simp)]
  rw [show List.drop (decL [34, 255]).2 ([34, 255] : List UInt8) = [255] from rfl]
  rw [segs_cons (by simp)]
  rw [show List.drop (decL [255]).2 ([255] : List UInt8) = [] from rfl, segs_nil]
  rfl
theorem right_one : rightL [226, 130] = 0 := by
  unfold rightL
  rw [segs_cons (by simp)]
  rfl
theorem quote_ex (w : World) : Calls Tryd.prog 55 #[.string ⟨#[97, 34, 255]⟩] w fun e w' => e = .returned (.string ⟨#[34, 97, 92, 34, 92, 120, 102, 102, 34]⟩) ∧ Below w.heap.size w w' := by
  refine (quote_any ⟨#[97, 34, 255]⟩ w (by decide)).mono ?_
  rintro e w' ⟨rfl, hb⟩
  refine ⟨?_, hb⟩
  rw [show (⟨#[97, 34, 255]⟩ : ByteArray).data.toList = [97, 34, 255] from rfl, quote_one]
theorem right_ex (w : World) : Calls Tryd.prog 82 #[.string ⟨#[226, 130]⟩] w fun e w' => e = .returned (.int .i64 0) ∧ ∃ pos, w' = w.iter ⟨#[226, 130]⟩ pos := by
  refine (right_any ⟨#[226, 130]⟩ w (by decide)).mono ?_
  rintro e w' ⟨rfl, hb⟩
  refine ⟨?_, hb⟩
  rw [show (⟨#[226, 130]⟩ : ByteArray).data.toList = [226, 130] from rfl, right_one]

theorem below_iter {B : Nat} {a w : World} (h : Below B a w) (hB : B ≤ w.heap.size) (s : ByteArray) (pos : Nat) : Below B a (w.iter s pos) := h.alloc hB _

end Go.Proofs.YtponiboiijgllaaDoor
