/- Bits in rows of 64, memory as a list of cells, and what each call makes of it: mathematics alone. No condition. -/
import Derived.Lib.TrailingZeros
namespace Go.Proofs.YtbcpdkmbbgcfbaaDoor

/-- The number whose bits are these, the lowest first. -/
def bitsOf : List Bool → Nat
  | [] => 0
  | b :: t => (if b then 1 else 0) + 2 * bitsOf t
theorem bits_lt : ∀ l, bitsOf l < 2 ^ l.length
  | [] => by decide
  | b :: t => by
    have := bits_lt t
    rw [bitsOf, List.length_cons, Nat.pow_succ]
    cases b <;> simp <;> omega
theorem bits_zero : ∀ l, bitsOf l = 0 → ∀ b ∈ l, b = false
  | [], _, _, hb => by simp at hb
  | b :: t, h, x, hx => by
    rw [bitsOf] at h
    rcases List.mem_cons.1 hx with rfl | hx
    · cases x
      · rfl
      · simp at h
    · exact bits_zero t (by omega) x hx
theorem bits_mod (b : Bool) (t : List Bool) : bitsOf (b :: t) % 2 = (if b then 1 else 0) ∧ bitsOf (b :: t) / 2 = bitsOf t := by
  rw [bitsOf]; cases b <;> simp <;> omega
theorem bits_test : ∀ (l : List Bool) (i : Nat), (bitsOf l).testBit i = (l[i]?).getD false
  | [], i => by simp [bitsOf]
  | b :: t, 0 => by
    rw [Nat.testBit_zero, (bits_mod b t).1]; cases b <;> rfl
  | b :: t, i + 1 => by
    rw [Nat.testBit_succ, (bits_mod b t).2, bits_test t i]; rfl
theorem bits_or (l : List Bool) (k : Nat) (hk : k < l.length) : bitsOf l ||| 2 ^ k = bitsOf (l.set k true) := by
  apply Nat.eq_of_testBit_eq
  intro i
  rw [Nat.testBit_or, bits_test, bits_test, Nat.testBit_two_pow]
  by_cases h : k = i
  · subst h
    rw [List.getElem?_set_self hk]; simp
  · rw [List.getElem?_set_ne h]; simp [h]
theorem bits_clear : ∀ l : List Bool, l.findIdx id < l.length → bitsOf l &&& (bitsOf l - 1) = bitsOf (l.set (l.findIdx id) false)
  | [], h => by simp at h
  | true :: t, _ => by
    have e : (true :: t).findIdx id = 0 := by simp [List.findIdx_cons]
    rw [e, List.set_cons_zero]
    apply Nat.eq_of_testBit_eq
    intro i
    rw [Nat.testBit_and]
    have e1 : bitsOf (true :: t) - 1 = bitsOf (false :: t) := by simp [bitsOf]
    rw [e1, bits_test, bits_test]
    cases i <;> simp
  | false :: t, h => by
    have e : (false :: t).findIdx id = t.findIdx id + 1 := by simp [List.findIdx_cons]
    rw [e] at h ⊢
    rw [List.length_cons] at h
    have hr := bits_clear t (by omega)
    rw [List.set_cons_succ]
    have hp : 0 < bitsOf t := by
      apply Nat.pos_of_ne_zero
      intro h0
      have := bits_zero t h0 _ (List.getElem_mem (show t.findIdx id < t.length by omega))
      have h2 := List.findIdx_getElem (p := id) (xs := t) (w := by omega)
      simp only [id] at h2
      rw [this] at h2
      exact absurd h2 (by decide)
    apply Nat.eq_of_testBit_eq
    intro i
    rw [Nat.testBit_and]
    have e2 : bitsOf (false :: t) - 1 = 1 + 2 * (bitsOf t - 1) := by simp [bitsOf]; omega
    rw [e2]
    cases i with
    | zero => rw [bits_test, bits_test]; simp
    | succ i =>
      rw [bits_test, bits_test, Nat.testBit_succ, show (1 + 2 * (bitsOf t - 1)) / 2 = bitsOf t - 1 by omega]
      have := congrArg (fun n => n.testBit i) hr
      simp only [Nat.testBit_and, bits_test] at this
      simpa using this
theorem bits_ctz : ∀ (l : List Bool) (f : Nat), l.findIdx id < l.length → l.findIdx id < f → Lib.ctzFrom f (bitsOf l) = l.findIdx id
  | [], _, h, _ => by simp at h
  | _ :: _, 0, _, h => by omega
  | true :: t, f + 1, _, _ => by
    have e : (true :: t).findIdx id = 0 := by simp [List.findIdx_cons]
    rw [Lib.ctzFrom, (bits_mod true t).1, e]; rfl
  | false :: t, f + 1, h, h2 => by
    have e : (false :: t).findIdx id = t.findIdx id + 1 := by simp [List.findIdx_cons]
    rw [e] at h h2 ⊢
    rw [List.length_cons] at h
    rw [Lib.ctzFrom, (bits_mod false t).1, (bits_mod false t).2, bits_ctz t f (by omega) (by omega)]
    simp; omega

/-- The row of 64 places that holds the j-th 64. -/
def row (F : List Bool) (j : Nat) : List Bool := (F.drop (64 * j)).take 64
def rowAt (F : List Bool) (j : Nat) : Nat := bitsOf (row F j)
theorem row_len (F : List Bool) (j : Nat) : (row F j).length = min 64 (F.length - 64 * j) := by simp [row]
theorem rowAt_lt (F : List Bool) (j : Nat) : rowAt F j < 18446744073709551616 := by
  have h := bits_lt (row F j)
  have h2 : (row F j).length ≤ 64 := by rw [row_len]; omega
  exact Nat.lt_of_lt_of_le h (Nat.le_trans (Nat.pow_le_pow_right (by decide) h2) (by decide))
theorem row_set (F : List Bool) (q : Nat) (x : Bool) (j : Nat) : row (F.set q x) j = if q / 64 = j then (row F j).set (q % 64) x else row F j := by
  apply List.ext_getElem?
  intro i
  split
  · rename_i h
    subst h
    simp only [row, List.getElem?_take, List.getElem?_drop, List.getElem?_set, List.length_take, List.length_drop]
    by_cases hi : i < 64
    · rw [if_pos hi]
      by_cases hq : q = 64 * (q / 64) + i
      · rw [if_pos hq, if_pos (show q % 64 = i by omega)]
        by_cases hl : q < F.length
        · rw [if_pos hl, if_pos (by omega)]
        · rw [if_neg hl, if_neg (by omega)]
      · rw [if_neg hq, if_neg (show ¬ q % 64 = i by omega), if_pos hi]
    · rw [if_neg hi, if_neg (show ¬ q % 64 = i by omega), if_neg hi]
  · rename_i h
    simp only [row, List.getElem?_take, List.getElem?_drop, List.getElem?_set]
    by_cases hi : i < 64
    · rw [if_pos hi, if_pos hi, if_neg (show ¬ q = 64 * j + i by omega)]
    · rw [if_neg hi, if_neg hi]
theorem rowAt_or (F : List Bool) (q : Nat) (hq : q < F.length) : rowAt F (q / 64) ||| 2 ^ (q % 64) = rowAt (F.set q true) (q / 64) := by
  rw [rowAt, rowAt, row_set, if_pos rfl]
  exact bits_or _ _ (by rw [row_len]; omega)
theorem rowAt_other (F : List Bool) (q : Nat) (x : Bool) (j : Nat) (h : q / 64 ≠ j) : rowAt (F.set q x) j = rowAt F j := by
  rw [rowAt, rowAt, row_set, if_neg h]

theorem find_split (F : List Bool) (j : Nat) (h : 64 * j ≤ F.findIdx id) (hj : 64 * j ≤ F.length) : F.findIdx id = 64 * j + (F.drop (64 * j)).findIdx id := by
  have e := List.take_append_drop (64 * j) F
  have hl : (F.take (64 * j)).length = 64 * j := by rw [List.length_take]; omega
  conv => lhs; rw [← e]
  conv at h => rhs; rw [← e]
  rw [List.findIdx_append] at h ⊢
  split
  · rename_i h1
    rw [if_pos h1] at h
    omega
  · rw [hl]; omega
theorem find_row (F : List Bool) (j : Nat) (h : 64 * j ≤ F.findIdx id) (hj : 64 * j < F.length) :
    (rowAt F j = 0 ∧ 64 * (j + 1) ≤ F.findIdx id + 64 ∧ (64 * (j + 1) ≤ F.findIdx id ∨ F.findIdx id = F.length)) ∨ (rowAt F j ≠ 0 ∧ (row F j).findIdx id < (row F j).length ∧ F.findIdx id = 64 * j + (row F j).findIdx id) := by
  have hs := find_split F j h (by omega)
  have e := List.take_append_drop 64 (F.drop (64 * j))
  have hd : (F.drop (64 * j)).findIdx id = ((row F j) ++ (F.drop (64 * j)).drop 64).findIdx id := by unfold row; rw [e]
  rw [List.findIdx_append] at hd
  have hl := row_len F j
  split at hd
  · rename_i h1
    right
    refine ⟨?_, h1, by omega⟩
    intro h0
    have h2 := bits_zero _ h0 _ (List.getElem_mem h1)
    have h3 := List.findIdx_getElem (p := id) (xs := row F j) (w := h1)
    simp only [id] at h3
    rw [h2] at h3
    exact absurd h3 (by decide)
  · rename_i h1
    left
    have hle : (row F j).findIdx id ≤ (row F j).length := List.findIdx_le_length
    refine ⟨?_, by omega, ?_⟩
    · have hall : ∀ x ∈ row F j, x = false := by
        intro x hx
        have := List.findIdx_eq_length.1 (show (row F j).findIdx id = (row F j).length by omega) x hx
        simpa using this
      show bitsOf (row F j) = 0
      generalize row F j = l at hall
      clear hd hl h1 hle e hs h hj
      induction l with
      | nil => rfl
      | cons b t ih =>
        rw [bitsOf, ih (fun x hx => hall x (List.mem_cons_of_mem _ hx)), hall b (List.mem_cons_self ..)]; rfl
    · by_cases h64 : 64 * (j + 1) ≤ F.length
      · left; omega
      · right
        have : (F.drop (64 * j)).drop 64 = [] := by simp; omega
        rw [this] at hd
        simp at hd
        omega
theorem row_clear (F : List Bool) (j : Nat) (h : (row F j).findIdx id < (row F j).length) : rowAt F j &&& (rowAt F j - 1) = rowAt (F.set (64 * j + (row F j).findIdx id) false) j := by
  have hl := row_len F j
  rw [rowAt, rowAt, row_set, if_pos (by omega), show (64 * j + (row F j).findIdx id) % 64 = (row F j).findIdx id by omega]
  exact bits_clear _ h
theorem row_ctz (F : List Bool) (j : Nat) (h : (row F j).findIdx id < (row F j).length) (h0 : rowAt F j ≠ 0) : Lib.ctz 64 (rowAt F j) = (row F j).findIdx id := by
  have hl := row_len F j
  rw [Lib.ctz, if_neg h0]
  exact bits_ctz _ _ h (by omega)
end Go.Proofs.YtbcpdkmbbgcfbaaDoor
