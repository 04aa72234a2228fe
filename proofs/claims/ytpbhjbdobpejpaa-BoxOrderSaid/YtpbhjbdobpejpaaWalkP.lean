/- BoxOrder answers true, whatever three boxes of the reference it is handed. No condition. -/
import Derived.Test.YtpbhjbdobpejpaaWalkO
namespace Go.Proofs.Ytpbhjbdobpejpaa
open Go.RowKit Go.Op

set_option maxHeartbeats 4000000 in
theorem order_long0 (k0 n0 : Int) (s0 : ByteArray) (k1 n1 : Int) (s1 : ByteArray) (k2 n2 : Int) (s2 : ByteArray) (w : World) (d0 : decide (300 < (s0.size : Int)) = true) :
    Calls Try.prog 6 #[.agg #[.int .i64 k0, .int .i64 n0, .string s0], .agg #[.int .i64 k1, .int .i64 n1, .string s1], .agg #[.int .i64 k2, .int .i64 n2, .string s2]] w fun e w' => e = .returned (.bool true) ∧ Below w.heap.size w w' := by
  go_enter Try.func6, Try.ntmps6
  go_wp2_with fail
  refine (awake_any _).mono ?_
  rintro e w1 ⟨rfl, b1⟩
  have hz := b1.size
  simp at hz
  have c0 : w1.cell? ⟨w.heap.size, 2, none⟩ = some (.string s0) := keep b1 (by simp [go_sem]) (by simp; omega)
  go_wp2_with fail
  refine (awake_any _).mono ?_
  rintro e w2 ⟨rfl, b2⟩
  go_wp2
  go_ret
  exact ⟨rfl, ((((Below.refl _ _).alloc (Nat.le_refl _) _).alloc (by simp) _).alloc (by simp; omega) _).trans ((b1.mono (by simp; omega)).trans (b2.mono (by omega)))⟩

set_option maxHeartbeats 4000000 in
theorem order_long1 (k0 n0 : Int) (s0 : ByteArray) (k1 n1 : Int) (s1 : ByteArray) (k2 n2 : Int) (s2 : ByteArray) (w : World) (d0 : decide (300 < (s0.size : Int)) = false) (d1 : decide (300 < (s1.size : Int)) = true) :
    Calls Try.prog 6 #[.agg #[.int .i64 k0, .int .i64 n0, .string s0], .agg #[.int .i64 k1, .int .i64 n1, .string s1], .agg #[.int .i64 k2, .int .i64 n2, .string s2]] w fun e w' => e = .returned (.bool true) ∧ Below w.heap.size w w' := by
  go_enter Try.func6, Try.ntmps6
  go_wp2_with fail
  refine (awake_any _).mono ?_
  rintro e w1 ⟨rfl, b1⟩
  have hz := b1.size
  simp at hz
  have c0 : w1.cell? ⟨w.heap.size, 2, none⟩ = some (.string s0) := keep b1 (by simp [go_sem]) (by simp; omega)
  have c1 : w1.cell? ⟨w.heap.size + 1, 2, none⟩ = some (.string s1) := keep b1 (by simp [go_sem]) (by simp)
  go_wp2_with fail
  refine (awake_any _).mono ?_
  rintro e w2 ⟨rfl, b2⟩
  go_wp2
  go_ret
  exact ⟨rfl, ((((Below.refl _ _).alloc (Nat.le_refl _) _).alloc (by simp) _).alloc (by simp; omega) _).trans ((b1.mono (by simp; omega)).trans (b2.mono (by omega)))⟩

set_option maxHeartbeats 4000000 in
theorem order_long2 (k0 n0 : Int) (s0 : ByteArray) (k1 n1 : Int) (s1 : ByteArray) (k2 n2 : Int) (s2 : ByteArray) (w : World) (d0 : decide (300 < (s0.size : Int)) = false) (d1 : decide (300 < (s1.size : Int)) = false) (d2 : decide (300 < (s2.size : Int)) = true) :
    Calls Try.prog 6 #[.agg #[.int .i64 k0, .int .i64 n0, .string s0], .agg #[.int .i64 k1, .int .i64 n1, .string s1], .agg #[.int .i64 k2, .int .i64 n2, .string s2]] w fun e w' => e = .returned (.bool true) ∧ Below w.heap.size w w' := by
  go_enter Try.func6, Try.ntmps6
  go_wp2_with fail
  refine (awake_any _).mono ?_
  rintro e w1 ⟨rfl, b1⟩
  have hz := b1.size
  simp at hz
  have c0 : w1.cell? ⟨w.heap.size, 2, none⟩ = some (.string s0) := keep b1 (by simp [go_sem]) (by simp; omega)
  have c1 : w1.cell? ⟨w.heap.size + 1, 2, none⟩ = some (.string s1) := keep b1 (by simp [go_sem]) (by simp)
  have c2 : w1.cell? ⟨w.heap.size + 2, 2, none⟩ = some (.string s2) := keep b1 (by simp [go_sem]) (by simp)
  go_wp2_with fail
  refine (awake_any _).mono ?_
  rintro e w2 ⟨rfl, b2⟩
  go_wp2
  go_ret
  exact ⟨rfl, ((((Below.refl _ _).alloc (Nat.le_refl _) _).alloc (by simp) _).alloc (by simp; omega) _).trans ((b1.mono (by simp; omega)).trans (b2.mono (by omega)))⟩

theorem orderLaw_any (k0 n0 : Int) (s0 : ByteArray) (k1 n1 : Int) (s1 : ByteArray) (k2 n2 : Int) (s2 : ByteArray) (w : World) :
    Calls Try.prog 6 #[.agg #[.int .i64 k0, .int .i64 n0, .string s0], .agg #[.int .i64 k1, .int .i64 n1, .string s1], .agg #[.int .i64 k2, .int .i64 n2, .string s2]] w fun e w' => e = .returned (.bool true) ∧ Below w.heap.size w w' := by
  by_cases h0 : (300 : Int) < (s0.size : Int)
  · exact order_long0 k0 n0 s0 k1 n1 s1 k2 n2 s2 w (by simpa using h0)
  by_cases h1 : (300 : Int) < (s1.size : Int)
  · exact order_long1 k0 n0 s0 k1 n1 s1 k2 n2 s2 w (by simpa using h0) (by simpa using h1)
  by_cases h2 : (300 : Int) < (s2.size : Int)
  · exact order_long2 k0 n0 s0 k1 n1 s1 k2 n2 s2 w (by simpa using h0) (by simpa using h1) (by simpa using h2)
  exact order_any k0 n0 s0 k1 n1 s1 k2 n2 s2 w _ _ _ rfl rfl rfl h0 h1 h2
end Go.Proofs.Ytpbhjbdobpejpaa
