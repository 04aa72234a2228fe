/- What Compare of the reference answers, of two plain boxes: what Compare of the program answers of the boxes that they stand for. No condition. -/
import Derived.Test.YtpbhjbdobpejpaaMath
namespace Go.Proofs.Ytpbhjbdobpejpaa
open Go.RowKit Go.Op

theorem ref_far {a b : Bx} (h : ¬ a.kd = b.kd) (w : World) : Calls Try.prog 18 #[a.plain, b.plain] w fun e w' => e = .returned (.int .i64 (a.cmp b)) ∧ Below w.heap.size w w' := by
  have hb : (a.kd != b.kd) = true := by rw [bne_iff_ne]; exact h
  unfold Bx.plain
  by_cases h1 : a.kd < b.kd
  · rw [show a.cmp b = -1 by unfold Bx.cmp; rw [if_pos h1]]
    clear h
    generalize a.kd = k1, b.kd = k2, a.int = n1, b.int = n2, a.str = s1, b.str = s2 at *
    go_enter Try.func18, Try.ntmps18
    go_wp2
    go_ret
    exact ⟨rfl, ((Below.refl _ _).alloc (Nat.le_refl _) _).alloc (by simp) _⟩
  · rw [show a.cmp b = 1 by unfold Bx.cmp; rw [if_neg h1, if_pos (by omega)]]
    clear h
    generalize a.kd = k1, b.kd = k2, a.int = n1, b.int = n2, a.str = s1, b.str = s2 at *
    go_enter Try.func18, Try.ntmps18
    go_wp2
    go_ret
    exact ⟨rfl, ((Below.refl _ _).alloc (Nat.le_refl _) _).alloc (by simp) _⟩

theorem ref_int (k n m : Int) (w : World) : Calls Try.prog 18 #[.agg #[.int .i64 k, .int .i64 n, .string ⟨#[]⟩], .agg #[.int .i64 k, .int .i64 m, .string ⟨#[]⟩]] w fun e w' => e = .returned (.int .i64 (cmpI n m)) ∧ Below w.heap.size w w' := by
  have z := less_irr (⟨#[]⟩ : ByteArray).toList
  by_cases h1 : n < m
  · rw [show cmpI n m = -1 by unfold cmpI; rw [if_pos h1]]
    go_enter Try.func18, Try.ntmps18
    go_wp2
    go_ret
    exact ⟨rfl, ((Below.refl _ _).alloc (Nat.le_refl _) _).alloc (by simp) _⟩
  by_cases h2 : m < n
  · rw [show cmpI n m = 1 by unfold cmpI; rw [if_neg h1, if_pos h2]]
    have d1 : decide (n < m) = false := by simpa using h1
    clear h1
    go_enter Try.func18, Try.ntmps18
    go_wp2
    go_ret
    exact ⟨rfl, ((Below.refl _ _).alloc (Nat.le_refl _) _).alloc (by simp) _⟩
  · rw [show cmpI n m = 0 by unfold cmpI; rw [if_neg h1, if_neg h2]]
    have d1 : decide (n < m) = false := by simpa using h1
    have d2 : decide (m < n) = false := by simpa using h2
    clear h1 h2
    go_enter Try.func18, Try.ntmps18
    go_wp2
    go_ret
    exact ⟨rfl, ((Below.refl _ _).alloc (Nat.le_refl _) _).alloc (by simp) _⟩

theorem ref_str (k : Int) (s t : ByteArray) (w : World) : Calls Try.prog 18 #[.agg #[.int .i64 k, .int .i64 0, .string s], .agg #[.int .i64 k, .int .i64 0, .string t]] w fun e w' => e = .returned (.int .i64 (cmpS s t)) ∧ Below w.heap.size w w' := by
  by_cases h1 : bytesLess s.toList t.toList = true
  · rw [show cmpS s t = -1 by unfold cmpS; rw [if_pos h1]]
    go_enter Try.func18, Try.ntmps18
    go_wp2
    go_ret
    exact ⟨rfl, ((Below.refl _ _).alloc (Nat.le_refl _) _).alloc (by simp) _⟩
  have f1 : bytesLess s.toList t.toList = false := by simpa using h1
  by_cases h2 : bytesLess t.toList s.toList = true
  · rw [show cmpS s t = 1 by unfold cmpS; rw [if_neg h1, if_pos h2]]
    have f2 : (s.toList == t.toList) = false := by
      rw [beq_eq_false_iff_ne]
      intro e
      rw [e, less_irr] at h2
      cases h2
    clear h1 h2
    go_enter Try.func18, Try.ntmps18
    go_wp2
    go_ret
    exact ⟨rfl, ((Below.refl _ _).alloc (Nat.le_refl _) _).alloc (by simp) _⟩
  · rw [show cmpS s t = 0 by unfold cmpS; rw [if_neg h1, if_neg h2]]
    have f2 : (s.toList == t.toList) = true := by
      rw [beq_iff_eq]
      exact less_total _ _ f1 (by simpa using h2)
    clear h1 h2
    go_enter Try.func18, Try.ntmps18
    go_wp2
    go_ret
    exact ⟨rfl, ((Below.refl _ _).alloc (Nat.le_refl _) _).alloc (by simp) _⟩

theorem ref_any (a b : Bx) (w : World) : Calls Try.prog 18 #[a.plain, b.plain] w fun e w' => e = .returned (.int .i64 (a.cmp b)) ∧ Below w.heap.size w w' := by
  by_cases hk : a.kd = b.kd
  · cases a with
    | no => cases b with
      | no => exact (ref_int 0 0 0 w).mono fun e w' h => ⟨h.1, h.2⟩
      | _ => simp [Bx.kd] at hk
    | num n => cases b with
      | num m => exact (ref_int 1 n m w).mono fun e w' h => ⟨h.1, h.2⟩
      | _ => simp [Bx.kd] at hk
    | nam s => cases b with
      | nam t => exact (ref_str 2 s t w).mono fun e w' h => ⟨h.1, h.2⟩
      | _ => simp [Bx.kd] at hk
    | txt s => cases b with
      | txt t => exact (ref_str 3 s t w).mono fun e w' h => ⟨h.1, h.2⟩
      | _ => simp [Bx.kd] at hk
  · exact ref_far hk w
end Go.Proofs.Ytpbhjbdobpejpaa
