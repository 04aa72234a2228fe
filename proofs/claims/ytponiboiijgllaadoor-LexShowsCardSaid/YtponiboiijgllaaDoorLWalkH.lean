/- What the reference's word answers of any text, and what the memory holds of lists of words, and of lines. Condition: the text has at most 1000000 bytes. -/
import Derived.Test.YtponiboiijgllaaDoorLWalkG
namespace Go.Proofs.YtponiboiijgllaaDoor
open Go.RowKit
set_option maxRecDepth 100000

set_option maxHeartbeats 2000000 in
theorem refword_num (s : ByteArray) (w : World) (hs : s.size ≤ 1000000) (h34 : s.data.toList.head? ≠ some 34) (n : Int) (h2 : numL s.data.toList = some n) :
    Calls Tryd.prog 46 #[.string s] w fun e w' => ∃ k n x ok, e = .returned (.tuple #[refBox k n x, .bool ok]) ∧ RefW s.data.toList k n x ok ∧ Below w.heap.size w w' := by
  have HQ := Lib.hid (wordL_plain h34)
  have H2 := Lib.hid h2
  clear h2
  obtain ⟨c0, c1, c2, f0, f1, f2⟩ := new_three w (.int .i64 0) (.int .i64 0) (.string ⟨#[]⟩) 43
  have hway : ¬ 0 < s.size ∨ ∃ h0 : 0 < s.size, (((s[0]'h0).toNat : Int) == 34) = false := by
    by_cases h0 : 0 < s.size
    · refine .inr ⟨h0, ?_⟩
      rw [beq_eq_false_iff_ne]
      intro k
      apply h34
      rw [head_at h0, (u8_eq (s[0]'h0) 34 (by omega)).2 (by omega)]
      rfl
    · exact .inl h0
  clear h34
  rcases hway with h0 | ⟨h0, t34⟩
  all_goals
    go_enter Tryd.func46, Tryd.ntmps46
    go_wp2_with (go_at_call 12; refine (refNumber_any s _ hs).mono ?_)
    rintro e w' ⟨rfl, rfl⟩
    rw [H2.out]
    simp only [numV]
    go_wp2
    exact bodyPost_ret (v := .tuple #[refBox 1 n (⟨#[]⟩ : ByteArray), .bool true]) (by simp [results, Tryd.results46, go_sem, refBox]) rfl ⟨1, n, (⟨#[]⟩ : ByteArray), true, rfl, .inl ⟨rfl, .num n, by rw [HQ.out, H2.out], rfl, rfl, rfl⟩, (Below.refl _ _).alloc (Nat.le_refl _) _⟩
set_option maxHeartbeats 2000000 in
theorem refword_name (s : ByteArray) (w : World) (hs : s.size ≤ 1000000) (h34 : s.data.toList.head? ≠ some 34) (h2 : numL s.data.toList = none) (h3 : nameL s.data.toList = true) :
    Calls Tryd.prog 46 #[.string s] w fun e w' => ∃ k n x ok, e = .returned (.tuple #[refBox k n x, .bool ok]) ∧ RefW s.data.toList k n x ok ∧ Below w.heap.size w w' := by
  have HQ := Lib.hid (wordL_plain h34)
  have H2 := Lib.hid h2
  have H3 := Lib.hid h3
  clear h2 h3
  obtain ⟨c0, c1, c2, f0, f1, f2⟩ := new_three w (.int .i64 0) (.int .i64 0) (.string ⟨#[]⟩) 43
  have hway : ¬ 0 < s.size ∨ ∃ h0 : 0 < s.size, (((s[0]'h0).toNat : Int) == 34) = false := by
    by_cases h0 : 0 < s.size
    · refine .inr ⟨h0, ?_⟩
      rw [beq_eq_false_iff_ne]
      intro k
      apply h34
      rw [head_at h0, (u8_eq (s[0]'h0) 34 (by omega)).2 (by omega)]
      rfl
    · exact .inl h0
  clear h34
  rcases hway with h0 | ⟨h0, t34⟩
  all_goals
    go_enter Tryd.func46, Tryd.ntmps46
    go_wp2_with (go_at_call 12; refine (refNumber_any s _ hs).mono ?_)
    rintro e w' ⟨rfl, rfl⟩
    rw [H2.out]
    simp only [numV]
    go_wp2_with (go_at_call 14; refine (refName_any s _ hs).mono ?_)
    rintro e w' ⟨rfl, rfl⟩
    rw [H3.out]
    go_wp2
    exact bodyPost_ret (v := .tuple #[refBox 2 0 s, .bool true]) (by simp [results, Tryd.results46, go_sem, refBox]) rfl ⟨2, 0, s, true, rfl, .inl ⟨rfl, .nam s, by rw [HQ.out, H2.out, H3.out]; rfl, rfl, rfl, rfl⟩, (Below.refl _ _).alloc (Nat.le_refl _) _⟩
set_option maxHeartbeats 2000000 in
theorem refword_none (s : ByteArray) (w : World) (hs : s.size ≤ 1000000) (h34 : s.data.toList.head? ≠ some 34) (h2 : numL s.data.toList = none) (h3 : nameL s.data.toList = false) :
    Calls Tryd.prog 46 #[.string s] w fun e w' => ∃ k n x ok, e = .returned (.tuple #[refBox k n x, .bool ok]) ∧ RefW s.data.toList k n x ok ∧ Below w.heap.size w w' := by
  have HQ := Lib.hid (wordL_plain h34)
  have H2 := Lib.hid h2
  have H3 := Lib.hid h3
  clear h2 h3
  obtain ⟨c0, c1, c2, f0, f1, f2⟩ := new_three w (.int .i64 0) (.int .i64 0) (.string ⟨#[]⟩) 43
  have hway : ¬ 0 < s.size ∨ ∃ h0 : 0 < s.size, (((s[0]'h0).toNat : Int) == 34) = false := by
    by_cases h0 : 0 < s.size
    · refine .inr ⟨h0, ?_⟩
      rw [beq_eq_false_iff_ne]
      intro k
      apply h34
      rw [head_at h0, (u8_eq (s[0]'h0) 34 (by omega)).2 (by omega)]
      rfl
    · exact .inl h0
  clear h34
  rcases hway with h0 | ⟨h0, t34⟩
  all_goals
    go_enter Tryd.func46, Tryd.ntmps46
    go_wp2_with (go_at_call 12; refine (refNumber_any s _ hs).mono ?_)
    rintro e w' ⟨rfl, rfl⟩
    rw [H2.out]
    simp only [numV]
    go_wp2_with (go_at_call 14; refine (refName_any s _ hs).mono ?_)
    rintro e w' ⟨rfl, rfl⟩
    rw [H3.out]
    go_wp2
    exact bodyPost_ret (v := .tuple #[refBox 2 0 s, .bool false]) (by simp [results, Tryd.results46, go_sem, refBox]) rfl ⟨2, 0, s, false, rfl, .inr ⟨rfl, by rw [HQ.out, H2.out, H3.out]; rfl⟩, (Below.refl _ _).alloc (Nat.le_refl _) _⟩
theorem refword_any (s : ByteArray) (w : World) (hs : s.size ≤ 1000000) :
    Calls Tryd.prog 46 #[.string s] w fun e w' => ∃ k n x ok, e = .returned (.tuple #[refBox k n x, .bool ok]) ∧ RefW s.data.toList k n x ok ∧ Below w.heap.size w w' := by
  by_cases hq : ∃ h0 : 0 < s.size, (s[0]'h0).toNat = 34
  · obtain ⟨h0, h34⟩ := hq
    exact refword_quote s w hs h0 h34
  · have h34 : s.data.toList.head? ≠ some 34 := by
      intro k
      by_cases h0 : 0 < s.size
      · rw [head_at h0] at k
        simp only [Option.some.injEq] at k
        exact hq ⟨h0, by rw [k]; rfl⟩
      · have e : s.data.toList = [] := List.eq_nil_of_length_eq_zero (by rw [len_data]; omega)
        rw [e] at k
        cases k
    cases h2 : numL s.data.toList with
    | some n => exact refword_num s w hs h34 n h2
    | none =>
      cases h3 : nameL s.data.toList with
      | true => exact refword_name s w hs h34 h2 h3
      | false => exact refword_none s w hs h34 h2 h3
end Go.Proofs.YtponiboiijgllaaDoor
