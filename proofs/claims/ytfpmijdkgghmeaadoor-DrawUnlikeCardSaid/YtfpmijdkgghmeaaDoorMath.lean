/- Heights of words in numbers, and that the step from a word to the one behind it is one to one. Conditions: words are less than 2 to the 32. -/
import Derived.Lib.TrailingZeros
namespace Go.Proofs.YtfpmijdkgghmeaaDoor

/-- How many bits 1 a word has in a row, from the lowest one on; at most f. -/
def up : Nat → Nat → Nat
  | 0, _ => 0
  | f + 1, w => if w % 2 = 1 then 1 + up f (w / 2) else 0
theorem up_le : ∀ (f w : Nat), up f w ≤ f
  | 0, _ => Nat.le_refl _
  | f + 1, w => by
    unfold up
    split
    · have := up_le f (w / 2); omega
    · omega
theorem up_min : ∀ (a b w : Nat), a ≤ b → up a w = min a (up b w)
  | 0, b, w, _ => by simp [up]
  | a + 1, 0, _, h => by omega
  | a + 1, b + 1, w, h => by
    unfold up
    split
    · rw [up_min a b (w / 2) (by omega)]; omega
    · omega
theorem ctz_up : ∀ (f w : Nat), w < 2 ^ f → Lib.ctzFrom f (2 ^ f - 1 - w) = up f w
  | 0, _, _ => rfl
  | f + 1, w, h => by
    unfold Lib.ctzFrom up
    have hp : 2 ^ (f + 1) = 2 * 2 ^ f := by rw [Nat.pow_succ]; omega
    rw [hp] at h ⊢
    have e : (2 * 2 ^ f - 1 - w) / 2 = 2 ^ f - 1 - w / 2 := by omega
    rw [e, ctz_up f (w / 2) (by omega)]
    by_cases h1 : w % 2 = 1
    · rw [if_neg (by omega), if_pos h1]
    · rw [if_pos (by omega), if_neg h1]
theorem ctz_word {w : Nat} (h : w < 4294967296) : Lib.ctz 32 (4294967295 - w) = up 32 w := by
  have := ctz_up 32 w h
  rw [show (2 ^ 32 - 1 : Nat) = 4294967295 by decide] at this
  rw [← this]
  unfold Lib.ctz
  split
  · rename_i h0
    rw [h0]
    decide
  · rfl

/-- The levels that count. -/
def lv (l : Int) : Nat := (min (max l 1) 24).toNat
theorem lv_one (l : Int) : 1 ≤ lv l := by unfold lv; omega
theorem lv_top (l : Int) : lv l ≤ 24 := by unfold lv; omega
/-- A word's height. -/
def ht (w : Nat) (l : Int) : Nat := 1 + up (lv l - 1) w
theorem ht_le (w : Nat) (l : Int) : ht w l ≤ lv l := by have := up_le (lv l - 1) w; have := lv_one l; unfold ht; omega
theorem ht_one (w : Nat) (l : Int) : 1 ≤ ht w l := by unfold ht; omega
theorem ht_code (w : Nat) (l : Int) : ((min (min (1 + up 32 w) (max l 1).toNat) 24 : Nat)) = ht w l := by
  have h := up_min (lv l - 1) 32 w (by have := lv_top l; omega)
  unfold ht
  rw [h]
  have := lv_one l
  unfold lv at this ⊢
  omega
theorem ht_mono (w : Nat) {a b : Int} (h : a ≤ b) : ht w a ≤ ht w b ∧ (ht w a = ht w b ∨ (ht w a : Int) = max 1 a) := by
  have hl : lv a ≤ lv b := by unfold lv; omega
  have e := up_min (lv a - 1) (lv b - 1) w (by omega)
  have h1 := lv_one a
  have h2 := up_le (lv b - 1) w
  have h3 := lv_top b
  have h4 : (lv a : Int) = min (max a 1) 24 := by unfold lv; omega
  unfold ht
  rw [e]
  omega

/-- Of the numbers below k those whose lowest m bits are 1: as many as k / 2^m. -/
theorem up_all : ∀ (f m w : Nat), m ≤ f → (m ≤ up f w ↔ w % 2 ^ m = 2 ^ m - 1)
  | f, 0, w, _ => by simp [Nat.mod_one]
  | 0, m + 1, w, h => by omega
  | f + 1, m + 1, w, h => by
    have hp : 2 ^ (m + 1) = 2 * 2 ^ m := by rw [Nat.pow_succ]; omega
    have hpos := Nat.two_pow_pos m
    have ih := up_all f m (w / 2) (by omega)
    have hm := Nat.mod_mul (x := w) (a := 2) (b := 2 ^ m)
    have hlt := Nat.mod_lt (w / 2) hpos
    unfold up
    rw [hp, hm]
    by_cases h1 : w % 2 = 1
    · rw [if_pos h1]
      constructor
      · intro h2
        have := ih.1 (by omega)
        omega
      · intro h2
        have := ih.2 (by omega)
        omega
    · rw [if_neg h1]
      omega
theorem count_step (k p : Nat) (hp : 0 < p) : (k + 1) / p = k / p + (if k % p = p - 1 then 1 else 0) := by
  have h := Nat.div_add_mod k p
  have hl := Nat.mod_lt k hp
  split
  · rename_i h1
    have e : k + 1 = p * (k / p + 1) := by rw [Nat.mul_add, Nat.mul_one]; omega
    rw [e, Nat.mul_div_cancel_left _ hp]
  · rename_i h1
    have e : k + 1 = (k % p + 1) + p * (k / p) := by omega
    rw [e, Nat.add_mul_div_left _ _ hp, Nat.div_eq_of_lt (by omega)]
    omega

/-- The word behind a word. -/
def n1 (a : Nat) : Nat := a ^^^ (a * 8192 % 4294967296)
def n2 (a : Nat) : Nat := a ^^^ (a / 131072)
def n3 (a : Nat) : Nat := a ^^^ (a * 32 % 4294967296)
def nx (a : Nat) : Nat := n3 (n2 (n1 a))
theorem n1_lt {a : Nat} (h : a < 4294967296) : n1 a < 4294967296 := Nat.xor_lt_two_pow (n := 32) h (Nat.mod_lt _ (by decide))
theorem n2_lt {a : Nat} (h : a < 4294967296) : n2 a < 4294967296 := Nat.xor_lt_two_pow (n := 32) h (by omega)
theorem n3_lt {a : Nat} (h : a < 4294967296) : n3 a < 4294967296 := Nat.xor_lt_two_pow (n := 32) h (Nat.mod_lt _ (by decide))
theorem nx_lt {a : Nat} (h : a < 4294967296) : nx a < 4294967296 := n3_lt (n2_lt (n1_lt h))
theorem xor_zero_eq {a b : Nat} (h : a ^^^ b = 0) : a = b := by
  have z2 : (a ^^^ b) ^^^ b = b := by rw [h, Nat.zero_xor]
  rwa [Nat.xor_assoc, Nat.xor_self, Nat.xor_zero] at z2
theorem xor_swap {a b x y : Nat} (h : a ^^^ x = b ^^^ y) : a ^^^ b = x ^^^ y := by
  have e : (a ^^^ b) ^^^ (x ^^^ y) = (a ^^^ x) ^^^ (b ^^^ y) := by
    apply Nat.eq_of_testBit_eq
    intro i
    simp only [Nat.testBit_xor]
    cases a.testBit i <;> cases b.testBit i <;> cases x.testBit i <;> cases y.testBit i <;> rfl
  rw [h, Nat.xor_self] at e
  exact xor_zero_eq e
theorem shift_xor (a b k : Nat) : a * 2 ^ k % 4294967296 ^^^ b * 2 ^ k % 4294967296 = (a ^^^ b) * 2 ^ k % 4294967296 := by
  have e : (4294967296 : Nat) = 2 ^ 32 := by decide
  rw [e]
  apply Nat.eq_of_testBit_eq
  intro i
  simp only [Nat.testBit_xor, Nat.testBit_mod_two_pow, Nat.testBit_mul_two_pow]
  by_cases h1 : i < 32 <;> by_cases h2 : k ≤ i <;> simp [h1, h2]
theorem fix_pow {d k : Nat} (h : d = d * 2 ^ k % 4294967296) : ∀ j, d = d * 2 ^ (k * j) % 4294967296
  | 0 => by
    have hd : d < 4294967296 := by rw [h]; exact Nat.mod_lt _ (by decide)
    rw [Nat.mul_zero, Nat.pow_zero, Nat.mul_one, Nat.mod_eq_of_lt hd]
  | j + 1 => by
    have ih := fix_pow h j
    have e : d * 2 ^ (k * (j + 1)) = d * 2 ^ k * 2 ^ (k * j) := by rw [Nat.mul_succ, Nat.add_comm, Nat.pow_add, Nat.mul_assoc]
    rw [e, Nat.mul_mod, ← h, Nat.mul_mod_mod]
    exact ih
theorem fix_zero {d k : Nat} (hk : 0 < k) (h : d = d * 2 ^ k % 4294967296) : d = 0 := by
  have h1 := fix_pow h 32
  have e : 2 ^ (k * 32) = 4294967296 * 2 ^ (k * 32 - 32) := by
    rw [show (4294967296 : Nat) = 2 ^ 32 by decide, ← Nat.pow_add]
    congr 1
    omega
  rw [e, ← Nat.mul_assoc, Nat.mul_right_comm, Nat.mul_mod_left] at h1
  exact h1
theorem n1_inj {a b : Nat} (h : n1 a = n1 b) : a = b := by
  have e := xor_swap h
  rw [show (8192 : Nat) = 2 ^ 13 by decide, shift_xor] at e
  exact xor_zero_eq (fix_zero (by decide) e)
theorem n3_inj {a b : Nat} (h : n3 a = n3 b) : a = b := by
  have e := xor_swap h
  rw [show (32 : Nat) = 2 ^ 5 by decide, shift_xor] at e
  exact xor_zero_eq (fix_zero (by decide) e)
theorem n2_inj {a b : Nat} (h : n2 a = n2 b) : a = b := by
  have e := xor_swap h
  rw [show (131072 : Nat) = 2 ^ 17 by decide, ← Nat.xor_div_two_pow] at e
  apply xor_zero_eq
  rcases Nat.eq_zero_or_pos (a ^^^ b) with z | z
  · exact z
  · have := Nat.div_lt_self z (show 1 < 2 ^ 17 by decide)
    omega
theorem nx_inj {a b : Nat} (h : nx a = nx b) : a = b := n1_inj (n2_inj (n3_inj h))
theorem nx_zero : nx 0 = 0 := by decide
theorem nx_one : nx 1 = 270369 := by decide
theorem ht_three : ht 3 24 = 3 := by decide
end Go.Proofs.YtfpmijdkgghmeaaDoor
