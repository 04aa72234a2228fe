/- BoxCompares answers true, whatever two boxes of the reference it is handed. No condition. -/
import Derived.Test.YtpbhjbdobpejpaaWalkLL
import Derived.Test.YtpbhjbdobpejpaaWalkLE
import Derived.Test.YtpbhjbdobpejpaaWalkLG
namespace Go.Proofs.Ytpbhjbdobpejpaa
open Go.RowKit Go.Op

set_option maxHeartbeats 4000000 in
theorem compares_long0 (k0 n0 : Int) (s0 : ByteArray) (k1 n1 : Int) (s1 : ByteArray) (w : World) (d0 : decide (300 < (s0.size : Int)) = true) :
    Calls Try.prog 5 #[.agg #[.int .i64 k0, .int .i64 n0, .string s0], .agg #[.int .i64 k1, .int .i64 n1, .string s1]] w fun e w' => e = .returned (.bool true) ∧ Below w.heap.size w w' := by
  go_enter Try.func5, Try.ntmps5
  go_wp2_with fail
  refine (awake_any _).mono ?_
  rintro e w1 ⟨rfl, b1⟩
  have hz := b1.size
  simp at hz
  have c2 : w1.cell? ⟨w.heap.size, 2, none⟩ = some (.string s0) := keep b1 (by simp [go_sem]) (by simp; omega)
  go_wp2_with fail
  refine (awake_any _).mono ?_
  rintro e w2 ⟨rfl, b2⟩
  go_wp2
  go_ret
  exact ⟨rfl, (((Below.refl _ _).alloc (Nat.le_refl _) _).alloc (by simp) _).trans ((b1.mono (by simp; omega)).trans (b2.mono (by omega)))⟩

set_option maxHeartbeats 4000000 in
theorem compares_long1 (k0 n0 : Int) (s0 : ByteArray) (k1 n1 : Int) (s1 : ByteArray) (w : World) (d0 : decide (300 < (s0.size : Int)) = false) (d1 : decide (300 < (s1.size : Int)) = true) :
    Calls Try.prog 5 #[.agg #[.int .i64 k0, .int .i64 n0, .string s0], .agg #[.int .i64 k1, .int .i64 n1, .string s1]] w fun e w' => e = .returned (.bool true) ∧ Below w.heap.size w w' := by
  go_enter Try.func5, Try.ntmps5
  go_wp2_with fail
  refine (awake_any _).mono ?_
  rintro e w1 ⟨rfl, b1⟩
  have hz := b1.size
  simp at hz
  have c2 : w1.cell? ⟨w.heap.size, 2, none⟩ = some (.string s0) := keep b1 (by simp [go_sem]) (by simp; omega)
  have c5 : w1.cell? ⟨w.heap.size + 1, 2, none⟩ = some (.string s1) := keep b1 (by simp [go_sem]) (by simp)
  go_wp2_with fail
  refine (awake_any _).mono ?_
  rintro e w2 ⟨rfl, b2⟩
  go_wp2
  go_ret
  exact ⟨rfl, (((Below.refl _ _).alloc (Nat.le_refl _) _).alloc (by simp) _).trans ((b1.mono (by simp; omega)).trans (b2.mono (by omega)))⟩

theorem cmp_three (a b : Bx) : a.cmp b = -1 ∨ a.cmp b = 0 ∨ a.cmp b = 1 := by
  have I : ∀ x y : Int, cmpI x y = -1 ∨ cmpI x y = 0 ∨ cmpI x y = 1 := fun x y => by
    unfold cmpI
    split
    · exact .inl rfl
    · split
      · exact .inr (.inr rfl)
      · exact .inr (.inl rfl)
  have J : ∀ x y : ByteArray, cmpS x y = -1 ∨ cmpS x y = 0 ∨ cmpS x y = 1 := fun x y => by
    unfold cmpS
    split
    · exact .inl rfl
    · split
      · exact .inr (.inr rfl)
      · exact .inr (.inl rfl)
  cases a <;> cases b <;> first
    | exact I _ _
    | exact J _ _
    | exact .inl rfl
    | exact .inr (.inl rfl)
    | exact .inr (.inr rfl)

theorem comparesLaw_any (k0 n0 : Int) (s0 : ByteArray) (k1 n1 : Int) (s1 : ByteArray) (w : World) :
    Calls Try.prog 5 #[.agg #[.int .i64 k0, .int .i64 n0, .string s0], .agg #[.int .i64 k1, .int .i64 n1, .string s1]] w fun e w' => e = .returned (.bool true) ∧ Below w.heap.size w w' := by
  by_cases h0 : (300 : Int) < (s0.size : Int)
  · exact compares_long0 k0 n0 s0 k1 n1 s1 w (by simpa using h0)
  by_cases h1 : (300 : Int) < (s1.size : Int)
  · exact compares_long1 k0 n0 s0 k1 n1 s1 w (by simpa using h0) (by simpa using h1)
  rcases cmp_three (ofZ k0 n0 s0) (ofZ k1 n1 s1) with h | h | h
  · exact comparesL k0 n0 s0 k1 n1 s1 w _ _ rfl rfl h h0 h1
  · exact comparesE k0 n0 s0 k1 n1 s1 w _ _ rfl rfl h h0 h1
  · exact comparesG k0 n0 s0 k1 n1 s1 w _ _ rfl rfl h h0 h1
end Go.Proofs.Ytpbhjbdobpejpaa
