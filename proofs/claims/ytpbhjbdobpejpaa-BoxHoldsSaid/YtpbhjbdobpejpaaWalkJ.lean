/- BoxHolds answers true, whatever box of the reference it is handed. No condition. -/
import Derived.Test.YtpbhjbdobpejpaaWalkINo
import Derived.Test.YtpbhjbdobpejpaaWalkINum
import Derived.Test.YtpbhjbdobpejpaaWalkINamY
import Derived.Test.YtpbhjbdobpejpaaWalkINamN
import Derived.Test.YtpbhjbdobpejpaaWalkITxtY
import Derived.Test.YtpbhjbdobpejpaaWalkITxtN
namespace Go.Proofs.Ytpbhjbdobpejpaa
open Go.RowKit Go.Op

set_option maxHeartbeats 4000000 in
theorem holds_long (k n : Int) (s : ByteArray) (w : World) (hs : (300 : Int) < (s.size : Int)) : Calls Try.prog 3 #[.agg #[.int .i64 k, .int .i64 n, .string s]] w fun e w' => e = .returned (.bool true) ∧ Below w.heap.size w w' := by
  go_enter Try.func3, Try.ntmps3
  go_wp2_with fail
  refine (awake_any _).mono ?_
  rintro e w1 ⟨rfl, b1⟩
  have hz := b1.size
  simp at hz
  have c2 : w1.cell? ⟨w.heap.size, 2, none⟩ = some (.string s) := keep b1 (by simp [go_sem]) (by simp)
  go_wp2_with fail
  refine (awake_any _).mono ?_
  rintro e w2 ⟨rfl, b2⟩
  go_wp2
  go_ret
  exact ⟨rfl, ((Below.refl _ _).alloc (Nat.le_refl _) _).trans ((b1.mono (by simp)).trans (b2.mono (by omega)))⟩

theorem holdsLaw_any (k n : Int) (s : ByteArray) (w : World) : Calls Try.prog 3 #[.agg #[.int .i64 k, .int .i64 n, .string s]] w fun e w' => e = .returned (.bool true) ∧ Below w.heap.size w w' := by
  by_cases hs : (300 : Int) < (s.size : Int)
  · exact holds_long k n s w hs
  · generalize hb : ofZ k n s = b
    cases b with
    | no => exact holds_No k n s w hb hs
    | num m => exact holds_Num k n s w m hb hs
    | nam t =>
      cases ht : t.toList.isEmpty with
      | true => exact holds_NamY k n s w t ht hb hs
      | false => exact holds_NamN k n s w t ht hb hs
    | txt t =>
      cases ht : t.toList.isEmpty with
      | true => exact holds_TxtY k n s w t ht hb hs
      | false => exact holds_TxtN k n s w t ht hb hs
end Go.Proofs.Ytpbhjbdobpejpaa
