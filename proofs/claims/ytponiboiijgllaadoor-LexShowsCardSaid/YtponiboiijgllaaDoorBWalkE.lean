/- What Compare answers: of two numbers, of two texts, of two boxes of the program, and of two plain boxes of the reference. No condition. -/
import Derived.Test.YtponiboiijgllaaDoorBMath
import Derived.Test.YtponiboiijgllaaDoorBWalkC
import Derived.Deep.RegionHeld3
namespace Go.Proofs.YtponiboiijgllaaDoor
open Go.RowKit Go.Op
set_option maxRecDepth 100000

theorem cint_any (a b : Int) (w : World) : Calls Tryd.prog 34 #[.int .i64 a, .int .i64 b] w fun e w' => e = .returned (.int .i64 (cmpI a b)) ∧ w = w' := by
  by_cases h1 : a < b
  · rw [show cmpI a b = -1 by unfold cmpI; rw [if_pos h1]]
    go_enter Tryd.func34, Tryd.ntmps34
    go_wp2
    go_ret
    exact ⟨rfl, rfl⟩
  by_cases h2 : b < a
  · rw [show cmpI a b = 1 by unfold cmpI; rw [if_neg h1, if_pos h2]]
    go_enter Tryd.func34, Tryd.ntmps34
    go_wp2
    go_ret
    exact ⟨rfl, rfl⟩
  · rw [show cmpI a b = 0 by unfold cmpI; rw [if_neg h1, if_neg h2]]
    go_enter Tryd.func34, Tryd.ntmps34
    go_wp2
    go_ret
    exact ⟨rfl, rfl⟩

theorem cstr_any (a b : ByteArray) (w : World) : Calls Tryd.prog 36 #[.string a, .string b] w fun e w' => e = .returned (.int .i64 (cmpS a b)) ∧ w = w' := by
  by_cases h1 : bytesLess a.toList b.toList = true
  · rw [show cmpS a b = -1 by unfold cmpS; rw [if_pos h1]]
    go_enter Tryd.func36, Tryd.ntmps36
    go_wp2
    go_ret
    exact ⟨rfl, rfl⟩
  have f1 : bytesLess a.toList b.toList = false := by simpa using h1
  by_cases h2 : bytesLess b.toList a.toList = true
  · rw [show cmpS a b = 1 by unfold cmpS; rw [if_neg h1, if_pos h2]]
    have f2 : (a.toList == b.toList) = false := by
      rw [beq_eq_false_iff_ne]
      intro e
      rw [e, less_irr] at h2
      cases h2
    clear h1 h2
    go_enter Tryd.func36, Tryd.ntmps36
    go_wp2
    go_ret
    exact ⟨rfl, rfl⟩
  · rw [show cmpS a b = 0 by unfold cmpS; rw [if_neg h1, if_neg h2]]
    have f2 : (a.toList == b.toList) = true := by
      rw [beq_iff_eq]
      exact less_total _ _ f1 (by simpa using h2)
    clear h1 h2
    go_enter Tryd.func36, Tryd.ntmps36
    go_wp2
    go_ret
    exact ⟨rfl, rfl⟩

theorem drew_below {B : Nat} {a w : World} (h : Below B a w) : Below B a w.drew := h.trans ⟨rfl, rfl, rfl, Nat.le_refl _, fun _ _ => rfl⟩
theorem two_start (w : World) (x y : Value) (s t : TypeId) : ((w.alloc (.cells #[x] s)).alloc (.cells #[y] t)).drew.cell? ⟨w.heap.size, 0, none⟩ = some x ∧ ((w.alloc (.cells #[x] s)).alloc (.cells #[y] t)).drew.cell? ⟨w.heap.size + 1, 0, none⟩ = some y ∧
    w.heap.size + 2 ≤ ((w.alloc (.cells #[x] s)).alloc (.cells #[y] t)).drew.heap.size ∧ Below w.heap.size w ((w.alloc (.cells #[x] s)).alloc (.cells #[y] t)).drew := by
  refine ⟨by simp [go_sem], by simp [go_sem], by show _ ≤ (w.alloc (.cells #[x] s) |>.alloc (.cells #[y] t)).heap.size; simp, drew_below (((Below.refl _ _).alloc (Nat.le_refl _) _).alloc (by simp) _)⟩
theorem two_keep {w w1 w2 : World} {x y : Value} (h : w1.cell? ⟨w.heap.size, 0, none⟩ = some x ∧ w1.cell? ⟨w.heap.size + 1, 0, none⟩ = some y ∧ w.heap.size + 2 ≤ w1.heap.size ∧ Below w.heap.size w w1) (hb : Below w1.heap.size w1 w2) :
    w2.cell? ⟨w.heap.size, 0, none⟩ = some x ∧ w2.cell? ⟨w.heap.size + 1, 0, none⟩ = some y ∧ w.heap.size + 2 ≤ w2.heap.size ∧ Below w.heap.size w w2 := by
  obtain ⟨h1, h2, h3, h4⟩ := h
  exact ⟨by rw [hb.cell (by show w.heap.size < _; omega)]; exact h1, by rw [hb.cell (by show w.heap.size + 1 < _; omega)]; exact h2, Nat.le_trans h3 hb.size, h4.trans (hb.mono h4.size)⟩

theorem cmp_kd {a b : Bx} (h : ¬ a.kd = b.kd) : a.cmp b = cmpI a.kd b.kd ∧ (cmpI a.kd b.kd != 0) = true := by
  constructor
  · unfold Bx.cmp cmpI
    by_cases h1 : a.kd < b.kd
    · rw [if_pos h1, if_pos h1]
    · have h2 : b.kd < a.kd := by omega
      rw [if_neg h1, if_neg h1, if_pos h2, if_pos h2]
  · rw [bne_iff_ne]
    intro e
    exact h ((cmpI_zero _ _).1 e)

set_option maxHeartbeats 2000000 in
theorem compare_any (a b : Bx) (w : World) : Calls Tryd.prog 19 #[.agg #[a.v], .agg #[b.v]] w fun e w' => e = .returned (.int .i64 (a.cmp b)) ∧ Below w.heap.size w w' := by
  have t0 := as3_n
  have t1 := as41_n
  have t2 := as43_n
  have t3 := as3_3
  have t4 := as3_41
  have t5 := as3_43
  have t6 := as41_41
  have t7 := as41_43
  have t8 := as43_43
  go_enter Tryd.func19, Tryd.ntmps19
  go_wp2_with fail
  go_region_held3 (fun w' => w'.cell? ⟨w.heap.size, 0, none⟩ = some a.v ∧ w'.cell? ⟨w.heap.size + 1, 0, none⟩ = some b.v ∧ w.heap.size + 2 ≤ w'.heap.size ∧ Below w.heap.size w w') (first | exact two_start _ _ _ _ _ | assumption | (refine two_keep ?_ hb; assumption))
    (first | (go_at_call 20; refine (kind_any _ _).mono ?_; rintro e w' ⟨rfl, hb⟩) | (go_at_call 34; refine (cint_any _ _ _).mono ?_; rintro e w' ⟨rfl, rfl⟩))
  rcases ‹_ ∧ _ ∧ _ ∧ Below w.heap.size w _› with ⟨c1, c2, hz, hB⟩
  by_cases hk : a.kd = b.kd
  · have hk' : (cmpI a.kd b.kd != 0) = false := by rw [(cmpI_zero _ _).2 hk]; rfl
    cases a <;> cases b <;> (try (exfalso; revert hk; simp [Bx.kd]; done))
    all_goals
      clear hk
      simp only [Bx.v] at c1 c2
    · go_wp2
      go_ret
      exact ⟨rfl, hB⟩
    · go_wp2_with (first | (go_at_call 35; refine (must3_yes _ _).mono ?_; rintro e w2 ⟨rfl, hb2⟩) | (go_at_call 34; refine (cint_any _ _ _).mono ?_; rintro e w' ⟨rfl, rfl⟩))
      go_ret
      exact ⟨rfl, hB.trans (hb2.mono hB.size)⟩
    · go_wp2_with (first | (go_at_call 37; refine (must41_yes _ _).mono ?_; rintro e w2 ⟨rfl, hb2⟩) | (go_at_call 36; refine (cstr_any _ _ _).mono ?_; rintro e w' ⟨rfl, rfl⟩))
      go_ret
      exact ⟨rfl, hB.trans (hb2.mono hB.size)⟩
    · go_wp2_with (first | (go_at_call 38; refine (must43_yes _ _).mono ?_; rintro e w2 ⟨rfl, hb2⟩) | (go_at_call 36; refine (cstr_any _ _ _).mono ?_; rintro e w' ⟨rfl, rfl⟩))
      go_ret
      exact ⟨rfl, hB.trans (hb2.mono hB.size)⟩
  · obtain ⟨e1, e2⟩ := cmp_kd hk
    have E := Lib.hid e1
    clear hk e1
    go_wp2
    go_ret
    exact ⟨ret_int E.out.symm, hB⟩
end Go.Proofs.YtponiboiijgllaaDoor
