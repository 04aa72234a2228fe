/- Bits in rows of 64, memory as a list of cells, and what each call makes of it: mathematics alone. No condition. -/
import Derived.Lib.TrailingZeros
import Derived.Test.YtibimnibmengpaaDoorChecked
import Derived.WalkKit
import Derived.Handy
import Derived.Below
import Derived.Lib.Hide
import Derived.Lib.MinMaxS
import Derived.WalkSpells
import Derived.WalkLawsBesides
import Derived.Laws.BitsAllLaws
import Derived.KernelRfl
import Derived.Test.YtibimnibmengpaaDoorVGen
import Derived.Laws.MakeOwn
namespace Go.Proofs.YtibimnibmengpaaDoor

/-- The number whose bits are these, the lowest first. -/
def bitsOf : List Bool → Nat
  | [] => 0
  | b :: t => (if b then 1 else 0) + 2 * bitsOf t
theorem bits_lt : ∀ l, bitsOf l < 2 ^ l.length
  | [] => by decide
  | b :: t => by
    have := bits_lt t
    rw [bitsOf, List.length_cons, Nat.pow_succ]
    cases b <;> simp <;> omega
theorem bits_zero : ∀ l, bitsOf l = 0 → ∀ b ∈ l, b = false
  | [], _, _, hb => by simp at hb
  | b :: t, h, x, hx => by
    rw [bitsOf] at h
    rcases List.mem_cons.1 hx with rfl | hx
    · cases x
      · rfl
      · simp at h
    · exact bits_zero t (by omega) x hx
theorem bits_mod (b : Bool) (t : List Bool) : bitsOf (b :: t) % 2 = (if b then 1 else 0) ∧ bitsOf (b :: t) / 2 = bitsOf t := by
  rw [bitsOf]; cases b <;> simp <;> omega
theorem bits_test : ∀ (l : List Bool) (i : Nat), (bitsOf l).testBit i = (l[i]?).getD false
  | [], i => by simp [bitsOf]
  | b :: t, 0 => by
    rw [Nat.testBit_zero, (bits_mod b t).1]; cases b <;> rfl
  | b :: t, i + 1 => by
    rw [Nat.testBit_succ, (bits_mod b t).2, bits_test t i]; rfl
theorem bits_or (l : List Bool) (k : Nat) (hk : k < l.length) : bitsOf l ||| 2 ^ k = bitsOf (l.set k true) := by
  apply Nat.eq_of_testBit_eq
  intro i
  rw [Nat.testBit_or, bits_test, bits_test, Nat.testBit_two_pow]
  by_cases h : k = i
  · subst h
    rw [List.getElem?_set_self hk]; simp
  · rw [List.getElem?_set_ne h]; simp [h]
theorem bits_clear : ∀ l : List Bool, l.findIdx id < l.length → bitsOf l &&& (bitsOf l - 1) = bitsOf (l.set (l.findIdx id) false)
  | [], h => by simp at h
  | true :: t, _ => by
    have e : (true :: t).findIdx id = 0 := by simp [List.findIdx_cons]
    rw [e, List.set_cons_zero]
    apply Nat.eq_of_testBit_eq
    intro i
    rw [Nat.testBit_and]
    have e1 : bitsOf (true :: t) - 1 = bitsOf (false :: t) := by simp [bitsOf]
    rw [e1, bits_test, bits_test]
    cases i <;> simp
  | false :: t, h => by
    have e : (false :: t).findIdx id = t.findIdx id + 1 := by simp [List.findIdx_cons]
    rw [e] at h ⊢
    rw [List.length_cons] at h
    have hr := bits_clear t (by omega)
    rw [List.set_cons_succ]
    have hp : 0 < bitsOf t := by
      apply Nat.pos_of_ne_zero
      intro h0
      have := bits_zero t h0 _ (List.getElem_mem (show t.findIdx id < t.length by omega))
      have h2 := List.findIdx_getElem (p := id) (xs := t) (w := by omega)
      simp only [id] at h2
      rw [this] at h2
      exact absurd h2 (by decide)
    apply Nat.eq_of_testBit_eq
    intro i
    rw [Nat.testBit_and]
    have e2 : bitsOf (false :: t) - 1 = 1 + 2 * (bitsOf t - 1) := by simp [bitsOf]; omega
    rw [e2]
    cases i with
    | zero => rw [bits_test, bits_test]; simp
    | succ i =>
      rw [bits_test, bits_test, Nat.testBit_succ, show (1 + 2 * (bitsOf t - 1)) / 2 = bitsOf t - 1 by omega]
      have := congrArg (fun n => n.testBit i) hr
      simp only [Nat.testBit_and, bits_test] at this
      simpa using this
theorem bits_ctz : ∀ (l : List Bool) (f : Nat), l.findIdx id < l.length → l.findIdx id < f → Lib.ctzFrom f (bitsOf l) = l.findIdx id
  | [], _, h, _ => by simp at h
  | _ :: _, 0, _, h => by omega
  | true :: t, f + 1, _, _ => by
    have e : (true :: t).findIdx id = 0 := by simp [List.findIdx_cons]
    rw [Lib.ctzFrom, (bits_mod true t).1, e]; rfl
  | false :: t, f + 1, h, h2 => by
    have e : (false :: t).findIdx id = t.findIdx id + 1 := by simp [List.findIdx_cons]
    rw [e] at h h2 ⊢
    rw [List.length_cons] at h
    rw [Lib.ctzFrom, (bits_mod false t).1, (bits_mod false t).2, bits_ctz t f (by omega) (by omega)]
    simp; omega

/-- The row of 64 places that holds the j-th 64. -/
def row (F : List Bool) (j : Nat) : List Bool := (F.drop (64 * j)).take 64
def rowAt (F : List Bool) (j : Nat) : Nat := bitsOf (row F j)
theorem row_len (F : List Bool) (j : Nat) : (row F j).length = min 64 (F.length - 64 * j) := by simp [row]
theorem rowAt_lt (F : List Bool) (j : Nat) : rowAt F j < 18446744073709551616 := by
  have h := bits_lt (row F j)
  have h2 : (row F j).length ≤ 64 := by rw [row_len]; omega
  exact Nat.lt_of_lt_of_le h (Nat.le_trans (Nat.pow_le_pow_right (by decide) h2) (by decide))
theorem row_set (F : List Bool) (q : Nat) (x : Bool) (j : Nat) : row (F.set q x) j = if q / 64 = j then (row F j).set (q % 64) x else row F j := by
  apply List.ext_getElem?
  intro i
  split
  · rename_i h
    subst h
    simp only [row, List.getElem?_take, List.getElem?_drop, List.getElem?_set, List.length_take, List.length_drop]
    by_cases hi : i < 64
    · rw [if_pos hi]
      by_cases hq : q = 64 * (q / 64) + i
      · rw [if_pos hq, if_pos (show q % 64 = i by omega)]
        by_cases hl : q < F.length
        · rw [if_pos hl, if_pos (by omega)]
        · rw [if_neg hl, if_neg (by omega)]
      · rw [if_neg hq, if_neg (show ¬ q % 64 = i by omega), if_pos hi]
    · rw [if_neg hi, if_neg (show ¬ q % 64 = i by omega), if_neg hi]
  · rename_i h
    simp only [row, List.getElem?_take, List.getElem?_drop, List.getElem?_set]
    by_cases hi : i < 64
    · rw [if_pos hi, if_pos hi, if_neg (show ¬ q = 64 * j + i by omega)]
    · rw [if_neg hi, if_neg hi]
theorem rowAt_or (F : List Bool) (q : Nat) (hq : q < F.length) : rowAt F (q / 64) ||| 2 ^ (q % 64) = rowAt (F.set q true) (q / 64) := by
  rw [rowAt, rowAt, row_set, if_pos rfl]
  exact bits_or _ _ (by rw [row_len]; omega)
theorem rowAt_other (F : List Bool) (q : Nat) (x : Bool) (j : Nat) (h : q / 64 ≠ j) : rowAt (F.set q x) j = rowAt F j := by
  rw [rowAt, rowAt, row_set, if_neg h]

theorem find_split (F : List Bool) (j : Nat) (h : 64 * j ≤ F.findIdx id) (hj : 64 * j ≤ F.length) : F.findIdx id = 64 * j + (F.drop (64 * j)).findIdx id := by
  have e := List.take_append_drop (64 * j) F
  have hl : (F.take (64 * j)).length = 64 * j := by rw [List.length_take]; omega
  conv => lhs; rw [← e]
  conv at h => rhs; rw [← e]
  rw [List.findIdx_append] at h ⊢
  split
  · rename_i h1
    rw [if_pos h1] at h
    omega
  · rw [hl]; omega
theorem find_row (F : List Bool) (j : Nat) (h : 64 * j ≤ F.findIdx id) (hj : 64 * j < F.length) :
    (rowAt F j = 0 ∧ 64 * (j + 1) ≤ F.findIdx id + 64 ∧ (64 * (j + 1) ≤ F.findIdx id ∨ F.findIdx id = F.length)) ∨ (rowAt F j ≠ 0 ∧ (row F j).findIdx id < (row F j).length ∧ F.findIdx id = 64 * j + (row F j).findIdx id) := by
  have hs := find_split F j h (by omega)
  have e := List.take_append_drop 64 (F.drop (64 * j))
  have hd : (F.drop (64 * j)).findIdx id = ((row F j) ++ (F.drop (64 * j)).drop 64).findIdx id := by unfold row; rw [e]
  rw [List.findIdx_append] at hd
  have hl := row_len F j
  split at hd
  · rename_i h1
    right
    refine ⟨?_, h1, by omega⟩
    intro h0
    have h2 := bits_zero _ h0 _ (List.getElem_mem h1)
    have h3 := List.findIdx_getElem (p := id) (xs := row F j) (w := h1)
    simp only [id] at h3
    rw [h2] at h3
    exact absurd h3 (by decide)
  · rename_i h1
    left
    have hle : (row F j).findIdx id ≤ (row F j).length := List.findIdx_le_length
    refine ⟨?_, by omega, ?_⟩
    · have hall : ∀ x ∈ row F j, x = false := by
        intro x hx
        have := List.findIdx_eq_length.1 (show (row F j).findIdx id = (row F j).length by omega) x hx
        simpa using this
      show bitsOf (row F j) = 0
      generalize row F j = l at hall
      clear hd hl h1 hle e hs h hj
      induction l with
      | nil => rfl
      | cons b t ih =>
        rw [bitsOf, ih (fun x hx => hall x (List.mem_cons_of_mem _ hx)), hall b (List.mem_cons_self ..)]; rfl
    · by_cases h64 : 64 * (j + 1) ≤ F.length
      · left; omega
      · right
        have : (F.drop (64 * j)).drop 64 = [] := by simp; omega
        rw [this] at hd
        simp at hd
        omega
theorem row_clear (F : List Bool) (j : Nat) (h : (row F j).findIdx id < (row F j).length) : rowAt F j &&& (rowAt F j - 1) = rowAt (F.set (64 * j + (row F j).findIdx id) false) j := by
  have hl := row_len F j
  rw [rowAt, rowAt, row_set, if_pos (by omega), show (64 * j + (row F j).findIdx id) % 64 = (row F j).findIdx id by omega]
  exact bits_clear _ h
theorem row_ctz (F : List Bool) (j : Nat) (h : (row F j).findIdx id < (row F j).length) (h0 : rowAt F j ≠ 0) : Lib.ctz 64 (rowAt F j) = (row F j).findIdx id := by
  have hl := row_len F j
  rw [Lib.ctz, if_neg h0]
  exact bits_ctz _ _ h (by omega)
end Go.Proofs.YtibimnibmengpaaDoor
/- What Handle, Right, Place, Gen of tag and of the reference answer of any numbers of 64 bits. Conditions: the numbers are of 64 bits. -/
namespace Go.Proofs.YtibimnibmengpaaDoor
open Go.RowKit Go.Op
set_option maxRecDepth 100000

theorem ret_i64 {a b : Int} (h : a = b) : Ending.returned (.int .i64 a) = .returned (.int .i64 b) := by rw [h]
theorem ret_bool {a b : Bool} (h : a = b) : Ending.returned (.bool a) = .returned (.bool b) := by rw [h]

/-- The lowest k bits of a number of 64 bits. -/
theorem and_low (k : Nat) (hk : k ≤ 62) (n m : Int) (hm : (BitVec.ofInt 64 m).toNat = 2 ^ k - 1) : bits .and .i64 n m = n % ((2 ^ k : Nat) : Int) := by
  have key : (BitVec.ofInt 64 n &&& BitVec.ofInt 64 m).toNat = (n % ((2 ^ 64 : Nat) : Int)).toNat % 2 ^ k := by
    rw [BitVec.toNat_and, BitVec.toNat_ofInt, hm, Nat.and_two_pow_sub_one_eq_mod]
  show IntKind.i64.wrap ((BitVec.ofInt 64 n &&& BitVec.ofInt 64 m).toNat : Nat) = _
  have hd : ((2 ^ k : Nat) : Int) ∣ ((2 ^ 64 : Nat) : Int) := Int.ofNat_dvd.mpr (Nat.pow_dvd_pow 2 (by omega))
  have hl : (2 ^ k : Nat) ≤ 2 ^ 62 := Nat.pow_le_pow_right (by decide) hk
  have hp : 0 < (2 ^ k : Nat) := Nat.two_pow_pos k
  have e : (((n % ((2 ^ 64 : Nat) : Int)).toNat % 2 ^ k : Nat) : Int) = n % ((2 ^ k : Nat) : Int) := by
    rw [Int.natCast_emod, Int.toNat_of_nonneg (Int.emod_nonneg _ (by decide)), Int.emod_emod_of_dvd n hd]
  rw [key, e, IntKind.wrap_i64]
  generalize (2 ^ k : Nat) = c at *
  have h1 := Int.emod_nonneg n (b := (c : Int)) (by omega)
  have h2 := Int.emod_lt_of_pos n (b := (c : Int)) (by omega)
  omega
theorem and16 (n : Int) : bits .and .i64 n 65535 = n % 65536 := and_low 16 (by decide) n 65535 (by decide)
theorem and31 (n : Int) : bits .and .i64 n 2147483647 = n % 2147483648 := and_low 31 (by decide) n 2147483647 (by decide)
/-- Numbers side by side. -/
theorem or_side (k : Nat) (a b : Nat) (ha : a % 2 ^ k = 0) (hb : b < 2 ^ k) (hs : a + b < 9223372036854775808) : bits .or .i64 (a : Int) (b : Int) = (a : Int) + (b : Int) := by
  show IntKind.i64.wrap ((BitVec.ofInt 64 (a : Int) ||| BitVec.ofInt 64 (b : Int)).toNat : Int) = _
  rw [BitVec.toNat_or, ofInt_u64 a (by omega), ofInt_u64 b (by omega), nat_join k a b ha hb, IntKind.wrap_i64]
  omega
theorem or16 (g p : Int) (h1 : 0 ≤ g) (h2 : g ≤ 16383) (h3 : 0 ≤ p) (h4 : p ≤ 65534) : bits .or .i64 (g * 65536) (p + 1) = g * 65536 + p + 1 := by
  have := or_side 16 (g.toNat * 65536) (p.toNat + 1) (by omega) (by omega) (by omega)
  rw [show g * 65536 = ((g.toNat * 65536 : Nat) : Int) by omega, show p + 1 = ((p.toNat + 1 : Nat) : Int) by omega, this]
  omega
theorem or31 (v h : Int) (h1 : 0 ≤ v) (h2 : v ≤ 1073741824) (h3 : 0 ≤ h) (h4 : h < 1073741824) : bits .or .i64 (v * 2147483648) h = v * 2147483648 + h := by
  have := or_side 31 (v.toNat * 2147483648) h.toNat (by omega) (by omega) (by omega)
  rw [show v * 2147483648 = ((v.toNat * 2147483648 : Nat) : Int) by omega]
  conv => lhs; rw [show h = (h.toNat : Int) by omega]
  rw [this]
  omega

/-- Is a number a handle? -/
def isH (h : Int) : Bool := decide (0 < h ∧ h < 1073741824 ∧ 0 < h % 65536)
/-- The handle of a place and a generation. -/
def hand (p g : Int) : Int := if 0 ≤ p ∧ p ≤ 65534 ∧ 0 ≤ g ∧ g ≤ 16383 then g * 65536 + p + 1 else 0
def placeOf (h : Int) : Int := if isH h = true then h % 65536 - 1 else -1
def genOf (h : Int) : Int := if isH h = true then h / 65536 else -1

theorem right_any (h : Int) (w : World) : Calls Tryd.prog 49 #[.int .i64 h] w fun e w' => e = .returned (.bool (isH h)) ∧ w = w' := by
  by_cases h1 : 0 < h
  · by_cases h2 : h / 65536 ≤ 16383
    · by_cases h3 : h % 65536 = 0
      · have e : isH h = false := decide_eq_false (by omega)
        have HA := Lib.hid (and16 h)
        rw [h3] at HA
        rw [e]
        go_enter Tryd.func49, Tryd.ntmps49
        go_wp2_with (rw [HA.out])
        go_ret
        exact ⟨rfl, rfl⟩
      · have e : isH h = true := decide_eq_true (by omega)
        have HA := Lib.hid (and16 h)
        rw [e]
        go_enter Tryd.func49, Tryd.ntmps49
        go_wp2_with (rw [HA.out])
        go_ret
        exact ⟨ret_bool (by simp; omega), rfl⟩
    · have e : isH h = false := decide_eq_false (by omega)
      rw [e]
      go_enter Tryd.func49, Tryd.ntmps49
      go_wp2
      go_ret
      exact ⟨rfl, rfl⟩
  · have e : isH h = false := decide_eq_false (by omega)
    rw [e]
    go_enter Tryd.func49, Tryd.ntmps49
    go_wp2
    go_ret
    exact ⟨rfl, rfl⟩
theorem handle_any (p g : Int) (w : World) : Calls Tryd.prog 110 #[.int .i64 p, .int .i64 g] w fun e w' => e = .returned (.int .i64 (hand p g)) ∧ w = w' := by
  by_cases h1 : p < 0
  · have e : hand p g = 0 := if_neg (by omega)
    rw [e]
    go_enter Tryd.func110, Tryd.ntmps110
    go_wp2
    go_ret
    exact ⟨rfl, rfl⟩
  · by_cases h2 : p ≥ 65535
    · have e : hand p g = 0 := if_neg (by omega)
      rw [e]
      go_enter Tryd.func110, Tryd.ntmps110
      go_wp2
      go_ret
      exact ⟨rfl, rfl⟩
    · by_cases h3 : g < 0
      · have e : hand p g = 0 := if_neg (by omega)
        rw [e]
        go_enter Tryd.func110, Tryd.ntmps110
        go_wp2
        go_ret
        exact ⟨rfl, rfl⟩
      · by_cases h4 : 16383 < g
        · have e : hand p g = 0 := if_neg (by omega)
          rw [e]
          go_enter Tryd.func110, Tryd.ntmps110
          go_wp2
          go_ret
          exact ⟨rfl, rfl⟩
        · have e : hand p g = g * 65536 + p + 1 := if_pos (by omega)
          have HO := Lib.hid (or16 g p (by omega) (by omega) (by omega) (by omega))
          rw [e]
          go_enter Tryd.func110, Tryd.ntmps110
          go_wp2
          go_ret
          exact ⟨ret_i64 HO.out, rfl⟩
theorem place_any (h : Int) (w : World) : Calls Tryd.prog 101 #[.int .i64 h] w fun e w' => e = .returned (.int .i64 (placeOf h)) ∧ w = w' := by
  have hr := fun w => right_any h w
  cases hi : isH h
  · have e : placeOf h = -1 := if_neg (by rw [hi]; decide)
    rw [hi] at hr
    rw [e]
    go_enter Tryd.func101, Tryd.ntmps101
    go_wp2_with fail
    refine (hr _).mono ?_
    rintro e w1 ⟨rfl, rfl⟩
    go_wp2
    go_ret
    exact ⟨rfl, rfl⟩
  · have e : placeOf h = h % 65536 - 1 := if_pos hi
    have HA := Lib.hid (and16 h)
    rw [hi] at hr
    rw [e]
    clear e
    go_enter Tryd.func101, Tryd.ntmps101
    go_wp2_with fail
    refine (hr _).mono ?_
    rintro e w1 ⟨rfl, rfl⟩
    go_wp2_with (rw [HA.out])
    go_ret
    exact ⟨rfl, rfl⟩
theorem gen_any (h : Int) (w : World) : Calls Tryd.prog 102 #[.int .i64 h] w fun e w' => e = .returned (.int .i64 (genOf h)) ∧ w = w' := by
  have hr := fun w => right_any h w
  cases hi : isH h
  · have e : genOf h = -1 := if_neg (by rw [hi]; decide)
    rw [hi] at hr
    rw [e]
    go_enter Tryd.func102, Tryd.ntmps102
    go_wp2_with fail
    refine (hr _).mono ?_
    rintro e w1 ⟨rfl, rfl⟩
    go_wp2
    go_ret
    exact ⟨rfl, rfl⟩
  · have e : genOf h = h / 65536 := if_pos hi
    rw [hi] at hr
    rw [e]
    clear e
    go_enter Tryd.func102, Tryd.ntmps102
    go_wp2_with fail
    refine (hr _).mono ?_
    rintro e w1 ⟨rfl, rfl⟩
    go_wp2
    go_ret
    exact ⟨rfl, rfl⟩

/-- The library's table stands in its variable. -/
def TabAt (w : World) : Prop := ∀ j, j < 64 → w.cell? ⟨0, j, none⟩ = some (.int .u8 (Lib.deBruijn64tab.getD j 0))
theorem tz_key {x a : Nat} (hx : x < 18446744073709551616) (h0 : 0 < x) (low : x &&& (18446744073709551616 - x) = a) :
    IntKind.u64.wrap (bits .and .u64 (x : Int) (IntKind.u64.wrap (-(x : Int))) * 285870213051353865) / 288230376151711744 = ((a * 285870213051353865 % 18446744073709551616 / 288230376151711744 : Nat) : Int) := by
  have hw : ∀ n : Int, IntKind.u64.wrap n = n % 18446744073709551616 := fun n => by simp [IntKind.wrap, IntKind.signed, IntKind.bits]
  rw [hw, hw]
  have neg : -(x : Int) % 18446744073709551616 = ((18446744073709551616 - x : Nat) : Int) := by omega
  rw [neg, u64_and_nat _ _ hx (by omega), low]
  omega
theorem tz_core (x k idx : Nat) (w : World) (hx0 : ((x : Int) == 0) = false)
    (key : IntKind.u64.wrap (bits BinOp.and IntKind.u64 (x : Int) (IntKind.u64.wrap (-(x : Int))) * 285870213051353865) / 288230376151711744 = (idx : Int))
    (hi : idx < 64) (hk : k < 64) (hcell : w.cell? ⟨0, idx, none⟩ = some (.int .u8 k)) :
    Calls Tryd.prog 109 #[.int .u64 x] w fun e w' => e = .returned (.int .i64 k) ∧ w = w' := by
  go_enter Tryd.func109, Tryd.ntmps109
  go_wp2_with (simp only [key])
  go_ret
  exact ⟨rfl, rfl⟩
theorem tz_any (x : Nat) (hx : x < 18446744073709551616) (hx0 : x ≠ 0) (w : World) (hT : TabAt w) : Calls Tryd.prog 109 #[.int .u64 x] w fun e w' => e = .returned (.int .i64 (Lib.ctz 64 x)) ∧ w = w' := by
  obtain ⟨hlow, hk⟩ := Lib.lowest_bit 64 x hx0 hx
  obtain ⟨hi, htab⟩ := Lib.deBruijn64_at _ hk
  have hcell := hT _ hi
  rw [htab] at hcell
  exact tz_core x _ _ w (by simp; omega) (tz_key hx (by omega) hlow) hi hk hcell
end Go.Proofs.YtibimnibmengpaaDoor
/- Memory's cells and counts in the program's memory: what stands where, and what a store makes of it; the four calls that only tell. No condition. -/
namespace Go.Proofs.YtibimnibmengpaaDoor
open Go.RowKit Go.Op
set_option maxRecDepth 100000

/-- A slice: its place, how long it is, how much room it has. -/
structure Sl where
  a : Option Addr
  n : Nat
  cap : Nat
def Sl.v (s : Sl) : Value := .slice s.a s.n s.cap
def Sl.nil : Sl := ⟨none, 0, 0⟩
/-- The places of a block's rows. -/
structure Pl where
  s0 : Sl
  s1 : Sl
  s2 : Sl
  s3 : Sl
def Pl.nil : Pl := ⟨.nil, .nil, .nil, .nil⟩
/-- A revision, its rows' places set aside. -/
structure Rv where
  ver : Int
  rate : Int
  lo : ByteArray
  hi : ByteArray
  all : Bool
  dead : Bool
  keys : List ByteArray
  vals : List ByteArray
  gone : List Bool
  tab : List Int
def Rv.row (r : Rv) (p : Pl) : List Value := [.int .i64 r.ver, .int .i64 r.rate, .string r.lo, .string r.hi, .bool r.all, .bool r.dead, .slice p.s0.a p.s0.n p.s0.cap, .slice p.s1.a p.s1.n p.s1.cap, .slice p.s2.a p.s2.n p.s2.cap, .slice p.s3.a p.s3.n p.s3.cap]
/-- What a block says: an age, a node. -/
inductive Dat where
  | age (r : Rv) (pv : Int)
  | node (low : ByteArray) (head : Int) (nx : List Int)
def Dat.ty : Dat → TypeId
  | .age .. => 57
  | .node .. => 38
def Dat.v : Dat → Pl → Value
  | .age r pv, p => .agg #[.int .i64 r.ver, .int .i64 r.rate, .string r.lo, .string r.hi, .bool r.all, .bool r.dead, .slice p.s0.a p.s0.n p.s0.cap, .slice p.s1.a p.s1.n p.s1.cap, .slice p.s2.a p.s2.n p.s2.cap, .slice p.s3.a p.s3.n p.s3.cap, .int .i64 pv]
  | .node low head _, p => .agg #[.string low, .int .i64 head, .slice p.s0.a p.s0.n p.s0.cap]
/-- What a cell holds. -/
inductive Held where
  | no
  | word (n : Int)
  | blk (d : Dat) (p : Pl)
def Held.v : Held → Value
  | .no => .nilIface
  | .word n => .iface 128 (.int .i64 n)
  | .blk d p => .iface d.ty (d.v p)
def Held.busy : Held → Bool
  | .no => false
  | _ => true
structure Cl where
  held : Held
  gen : Int
  ret : Bool
  stamp : Int
def Cl.can (x : Cl) : Bool := !x.held.busy && decide (x.gen ≤ 16383)
/-- Memory: its cells, how often it was asked, how many are not free, how often a handle was stale. -/
structure M where
  cells : List Cl
  count : Int
  live : Int
  stale : Int
def M.flags (m : M) : List Bool := m.cells.map Cl.can

/-- A cell at an offset of a block. -/
def CAt (w : World) (c o : Nat) (x : Cl) : Prop := w.cell? ⟨c, o, none⟩ = some x.held.v ∧ w.cell? ⟨c, o + 1, none⟩ = some (.int .i64 x.gen) ∧ w.cell? ⟨c, o + 2, none⟩ = some (.bool x.ret) ∧ w.cell? ⟨c, o + 3, none⟩ = some (.int .i64 x.stamp)
def Cells (w : World) (c : Nat) (L : List Cl) : Prop := ∀ i x, L[i]? = some x → CAt w c (i * 4) x
def Rows (w : World) (r n : Nat) (F : List Bool) : Prop := ∀ j, j < (n + 63) / 64 → w.cell? ⟨r, j, none⟩ = some (.int .u64 (rowAt F j : Nat))
structure Head (w : World) (b c r n : Nat) (cnt lv st : Int) : Prop where
  h0 : w.cell? ⟨b, 0, none⟩ = some (.slice (some ⟨c, 0, none⟩) n n)
  h1 : w.cell? ⟨b, 1, none⟩ = some (.slice (some ⟨r, 0, none⟩) ((n + 63) / 64) ((n + 63) / 64))
  h2 : w.cell? ⟨b, 2, none⟩ = some (.int .i64 cnt)
  h3 : w.cell? ⟨b, 3, none⟩ = some (.int .i64 lv)
  h4 : w.cell? ⟨b, 4, none⟩ = some (.int .i64 st)
/-- The places of the three blocks, which may be stored into. -/
structure Own (w : World) (b c r : Nat) : Prop where
  lb : b < w.heap.size
  lc : c < w.heap.size
  lr : r < w.heap.size
  bc : b ≠ c
  br : b ≠ r
  cr : c ≠ r
  fb : ∀ i, w.frozen? ⟨b, i, none⟩ = false
  fc : ∀ i, w.frozen? ⟨c, i, none⟩ = false
  fr : ∀ i, w.frozen? ⟨r, i, none⟩ = false
/-- Memory m stands at blocks b, c, r; which cells may be taken, F tells. -/
structure AtF (w : World) (b c r : Nat) (m : M) (F : List Bool) : Prop where
  own : Own w b c r
  head : Head w b c r m.cells.length m.count m.live m.stale
  cl : Cells w c m.cells
  rw : Rows w r m.cells.length F
def At (w : World) (b c r : Nat) (m : M) : Prop := AtF w b c r m m.flags

/-- All but three blocks is as it was. -/
structure Kept (b c r : Nat) (w w' : World) : Prop where
  os : w'.os = w.os
  tape : w'.tape = w.tape
  output : w'.output = w.output
  size : w.heap.size ≤ w'.heap.size
  block : ∀ k, k < w.heap.size → k ≠ b → k ≠ c → k ≠ r → w'.heap[k]? = w.heap[k]?
theorem Kept.refl (b c r : Nat) (w : World) : Kept b c r w w := ⟨rfl, rfl, rfl, Nat.le_refl _, fun _ _ _ _ _ => rfl⟩
theorem Kept.trans {b c r : Nat} {w1 w2 w3 : World} (h : Kept b c r w1 w2) (k : Kept b c r w2 w3) : Kept b c r w1 w3 :=
  ⟨k.os.trans h.os, k.tape.trans h.tape, k.output.trans h.output, Nat.le_trans h.size k.size, fun i hi hb hc hr => (k.block i (Nat.lt_of_lt_of_le hi h.size) hb hc hr).trans (h.block i hi hb hc hr)⟩
theorem Kept.below {b c r : Nat} {w w' : World} (h : Kept b c r w w') {B : Nat} (hB : B ≤ w.heap.size) (hb : B ≤ b) (hc : B ≤ c) (hr : B ≤ r) : Below B w w' :=
  ⟨h.os, h.tape, h.output, h.size, fun k hk => h.block k (by omega) (by omega) (by omega) (by omega)⟩
theorem Kept.of {b c r : Nat} {w w' : World} (h : Below w.heap.size w w') : Kept b c r w w' := ⟨h.os, h.tape, h.output, h.size, fun k hk _ _ _ => h.block k hk⟩
theorem Kept.set {b c r : Nat} {w w' : World} (h : Kept b c r w w') {a : Addr} (ha : a.block = b ∨ a.block = c ∨ a.block = r) (u : Value) : Kept b c r w (w'.setCell a u) :=
  h.trans ⟨rfl, rfl, rfl, by simp [World.setCell], fun k _ hb hc hr => Below.heap_setCell _ _ _ _ (by rcases ha with ha | ha | ha <;> rw [ha] <;> assumption)⟩
theorem Kept.cell {b c r : Nat} {w w' : World} (h : Kept b c r w w') {p : Addr} (hp : p.block < w.heap.size) (hb : p.block ≠ b) (hc : p.block ≠ c) (hr : p.block ≠ r) : w'.cell? p = w.cell? p :=
  World.cell?_of_block (w := w) (h.block p.block hp hb hc hr)

theorem set_other {w : World} {b i b' i' : Nat} {u x : Value} (h : w.cell? ⟨b', i', none⟩ = some x) (hn : b ≠ b' ∨ i ≠ i') : (w.setCell ⟨b, i, none⟩ u).cell? ⟨b', i', none⟩ = some x := by
  rw [World.cell?_setCell_other w ⟨b, i, none⟩ ⟨b', i', none⟩ u (by
    simp only [ne_eq, Addr.mk.injEq, not_and]
    rcases hn with hn | hn
    · exact fun e => absurd e hn
    · exact fun _ e => absurd e hn)]
  exact h
theorem set_same {w : World} {b i : Nat} {u x : Value} (h : w.cell? ⟨b, i, none⟩ = some x) : (w.setCell ⟨b, i, none⟩ u).cell? ⟨b, i, none⟩ = some u := World.cell?_setCell_same w ⟨b, i, none⟩ u h
theorem Own.set {w : World} {b c r : Nat} (h : Own w b c r) (a : Addr) (u : Value) : Own (w.setCell a u) b c r := by
  have e : (w.setCell a u).heap.size = w.heap.size := by simp [World.setCell]
  exact ⟨by rw [e]; exact h.lb, by rw [e]; exact h.lc, by rw [e]; exact h.lr, h.bc, h.br, h.cr, fun i => by rw [World.frozen?_setCell]; exact h.fb i, fun i => by rw [World.frozen?_setCell]; exact h.fc i, fun i => by rw [World.frozen?_setCell]; exact h.fr i⟩
theorem Head.other {w : World} {b c r n : Nat} {x y z : Int} (h : Head w b c r n x y z) {p : Nat} (hp : p ≠ b) (i : Nat) (u : Value) : Head (w.setCell ⟨p, i, none⟩ u) b c r n x y z :=
  ⟨set_other h.h0 (.inl hp), set_other h.h1 (.inl hp), set_other h.h2 (.inl hp), set_other h.h3 (.inl hp), set_other h.h4 (.inl hp)⟩
theorem CAt.other {w : World} {c o : Nat} {x : Cl} (h : CAt w c o x) {p i : Nat} (hp : p ≠ c ∨ i < o ∨ o + 4 ≤ i) (u : Value) : CAt (w.setCell ⟨p, i, none⟩ u) c o x :=
  ⟨set_other h.1 (by omega), set_other h.2.1 (by omega), set_other h.2.2.1 (by omega), set_other h.2.2.2 (by omega)⟩
theorem Cells.other {w : World} {c : Nat} {L : List Cl} (h : Cells w c L) {p : Nat} (hp : p ≠ c) (i : Nat) (u : Value) : Cells (w.setCell ⟨p, i, none⟩ u) c L :=
  fun k x hx => (h k x hx).other (.inl hp) u
theorem Rows.other {w : World} {r n : Nat} {F : List Bool} (h : Rows w r n F) {p : Nat} (hp : p ≠ r) (i : Nat) (u : Value) : Rows (w.setCell ⟨p, i, none⟩ u) r n F :=
  fun j hj => set_other (h j hj) (.inl hp)
theorem CAt.put0 {w : World} {c o : Nat} {x : Cl} (h : CAt w c o x) (t : Held) : CAt (w.setCell ⟨c, o, none⟩ t.v) c o { x with held := t } :=
  ⟨set_same h.1, set_other h.2.1 (by omega), set_other h.2.2.1 (by omega), set_other h.2.2.2 (by omega)⟩
theorem CAt.put1 {w : World} {c o : Nat} {x : Cl} (h : CAt w c o x) (t : Int) : CAt (w.setCell ⟨c, o + 1, none⟩ (.int .i64 t)) c o { x with gen := t } :=
  ⟨set_other h.1 (by omega), set_same h.2.1, set_other h.2.2.1 (by omega), set_other h.2.2.2 (by omega)⟩
theorem CAt.put2 {w : World} {c o : Nat} {x : Cl} (h : CAt w c o x) (t : Bool) : CAt (w.setCell ⟨c, o + 2, none⟩ (.bool t)) c o { x with ret := t } :=
  ⟨set_other h.1 (by omega), set_other h.2.1 (by omega), set_same h.2.2.1, set_other h.2.2.2 (by omega)⟩
theorem CAt.put3 {w : World} {c o : Nat} {x : Cl} (h : CAt w c o x) (t : Int) : CAt (w.setCell ⟨c, o + 3, none⟩ (.int .i64 t)) c o { x with stamp := t } :=
  ⟨set_other h.1 (by omega), set_other h.2.1 (by omega), set_other h.2.2.1 (by omega), set_same h.2.2.2⟩
/-- A store into cell i's place, by what it makes of that cell. -/
theorem Cells.put {w : World} {c : Nat} {L : List Cl} (h : Cells w c L) {i : Nat} {y : Cl} {o : Nat} (ho : i * 4 ≤ o ∧ o < i * 4 + 4) {u : Value} (hy : CAt (w.setCell ⟨c, o, none⟩ u) c (i * 4) y) : Cells (w.setCell ⟨c, o, none⟩ u) c (L.set i y) := by
  intro k z hz
  rw [List.getElem?_set] at hz
  split at hz
  · rename_i e
    subst e
    split at hz
    · cases hz; exact hy
    · cases hz
  · rename_i e
    exact (h k z hz).other (.inr (by omega)) u
theorem Rows.put {w : World} {r n : Nat} {F : List Bool} (h : Rows w r n F) {q : Nat} (x : Bool) : Rows (w.setCell ⟨r, q / 64, none⟩ (.int .u64 (rowAt (F.set q x) (q / 64) : Nat))) r n (F.set q x) := by
  intro j hj
  by_cases e : q / 64 = j
  · subst e
    exact set_same (h _ hj)
  · rw [rowAt_other F q x j e]
    exact set_other (h j hj) (.inr e)

theorem AtF.count {w : World} {b c r : Nat} {m : M} {F : List Bool} (h : AtF w b c r m F) (x : Int) : AtF (w.setCell ⟨b, 2, none⟩ (.int .i64 x)) b c r { m with count := x } F :=
  ⟨h.own.set _ _, ⟨set_other h.head.h0 (by omega), set_other h.head.h1 (by omega), set_same h.head.h2, set_other h.head.h3 (by omega), set_other h.head.h4 (by omega)⟩, h.cl.other h.own.bc _ _, h.rw.other h.own.br _ _⟩
theorem AtF.live {w : World} {b c r : Nat} {m : M} {F : List Bool} (h : AtF w b c r m F) (x : Int) : AtF (w.setCell ⟨b, 3, none⟩ (.int .i64 x)) b c r { m with live := x } F :=
  ⟨h.own.set _ _, ⟨set_other h.head.h0 (by omega), set_other h.head.h1 (by omega), set_other h.head.h2 (by omega), set_same h.head.h3, set_other h.head.h4 (by omega)⟩, h.cl.other h.own.bc _ _, h.rw.other h.own.br _ _⟩
theorem AtF.stale {w : World} {b c r : Nat} {m : M} {F : List Bool} (h : AtF w b c r m F) (x : Int) : AtF (w.setCell ⟨b, 4, none⟩ (.int .i64 x)) b c r { m with stale := x } F :=
  ⟨h.own.set _ _, ⟨set_other h.head.h0 (by omega), set_other h.head.h1 (by omega), set_other h.head.h2 (by omega), set_other h.head.h3 (by omega), set_same h.head.h4⟩, h.cl.other h.own.bc _ _, h.rw.other h.own.br _ _⟩
theorem AtF.row {w : World} {b c r : Nat} {m : M} {F : List Bool} (h : AtF w b c r m F) {q : Nat} (x : Bool) : AtF (w.setCell ⟨r, q / 64, none⟩ (.int .u64 (rowAt (F.set q x) (q / 64) : Nat))) b c r m (F.set q x) :=
  ⟨h.own.set _ _, h.head.other h.own.br.symm _ _, h.cl.other h.own.cr.symm _ _, h.rw.put x⟩
theorem AtF.put {w : World} {b c r : Nat} {m : M} {F : List Bool} (h : AtF w b c r m F) {i : Nat} {y : Cl} {o : Nat} (ho : i * 4 ≤ o ∧ o < i * 4 + 4) {u : Value} (hy : CAt (w.setCell ⟨c, o, none⟩ u) c (i * 4) y) : AtF (w.setCell ⟨c, o, none⟩ u) b c r { m with cells := m.cells.set i y } F :=
  ⟨h.own.set _ _, by show Head _ _ _ _ (m.cells.set i y).length _ _ _; rw [List.length_set]; exact h.head.other h.own.bc.symm _ _, h.cl.put ho hy, by show Rows _ _ (m.cells.set i y).length _; rw [List.length_set]; exact h.rw.other h.own.cr _ _⟩
theorem AtF.keep {w w' : World} {b c r : Nat} {m : M} {F : List Bool} (h : AtF w b c r m F) {B : Nat} (hb : Below B w w') (h1 : b < B) (h2 : c < B) (h3 : r < B) : AtF w' b c r m F := by
  have k1 : ∀ i, w'.cell? ⟨b, i, none⟩ = w.cell? ⟨b, i, none⟩ := fun i => hb.cell (p := ⟨b, i, none⟩) h1
  have k2 : ∀ i, w'.cell? ⟨c, i, none⟩ = w.cell? ⟨c, i, none⟩ := fun i => hb.cell (p := ⟨c, i, none⟩) h2
  have k3 : ∀ i, w'.cell? ⟨r, i, none⟩ = w.cell? ⟨r, i, none⟩ := fun i => hb.cell (p := ⟨r, i, none⟩) h3
  refine ⟨⟨Nat.lt_of_lt_of_le h.own.lb hb.size, Nat.lt_of_lt_of_le h.own.lc hb.size, Nat.lt_of_lt_of_le h.own.lr hb.size, h.own.bc, h.own.br, h.own.cr, fun i => ?_, fun i => ?_, fun i => ?_⟩, ⟨?_, ?_, ?_, ?_, ?_⟩, fun i x hx => ?_, fun j hj => ?_⟩
  · rw [hb.frozen (p := ⟨b, i, none⟩) h1]; exact h.own.fb i
  · rw [hb.frozen (p := ⟨c, i, none⟩) h2]; exact h.own.fc i
  · rw [hb.frozen (p := ⟨r, i, none⟩) h3]; exact h.own.fr i
  · rw [k1]; exact h.head.h0
  · rw [k1]; exact h.head.h1
  · rw [k1]; exact h.head.h2
  · rw [k1]; exact h.head.h3
  · rw [k1]; exact h.head.h4
  · unfold CAt
    rw [k2, k2, k2, k2]; exact h.cl i x hx
  · rw [k3]; exact h.rw j hj
theorem AtF.below {w w' : World} {b c r : Nat} {m : M} {F : List Bool} (h : AtF w b c r m F) (hb : Below w.heap.size w w') : AtF w' b c r m F := h.keep hb h.own.lb h.own.lc h.own.lr

end Go.Proofs.YtibimnibmengpaaDoor
/- What open, find, findWord, drop answer and make of memory. Conditions: counts and live cells are below 2 to the 62. -/
namespace Go.Proofs.YtibimnibmengpaaDoor
open Go.RowKit Go.Op
set_option maxRecDepth 100000

theorem Kept.drew {b c r : Nat} {w w' : World} (h : Kept b c r w w') : Kept b c r w w'.drew := h.trans (Kept.of ((Below.refl _ _).drew))
theorem AtF.drew {w : World} {b c r : Nat} {m : M} {F : List Bool} (h : AtF w b c r m F) : AtF w.drew b c r m F := h.below ((Below.refl _ _).drew)
theorem pow_u64 {n : Nat} (h : n < 64) : IntKind.u64.wrap ((2 : Int) ^ n) = ((2 ^ n : Nat) : Int) := by
  have h1 : 2 ^ n < 18446744073709551616 := Nat.pow_lt_pow_right (a := 2) (by decide) h
  have hw : ∀ n : Int, IntKind.u64.wrap n = n % 18446744073709551616 := fun n => by simp [IntKind.wrap, IntKind.signed, IntKind.bits]
  have e : ((2 : Int) ^ n) = ((2 ^ n : Nat) : Int) := by simp
  rw [e, hw]
  have h2 : ((2 ^ n : Nat) : Int) < 18446744073709551616 := Int.ofNat_lt.2 h1
  exact Int.emod_eq_of_lt (Int.natCast_nonneg _) h2
theorem or_row (F : List Bool) (q : Nat) (hq : q < F.length) :
    bits .or .u64 (rowAt F (q / 64) : Nat) (IntKind.u64.wrap ((2 : Int) ^ (q % 64))) = (rowAt (F.set q true) (q / 64) : Nat) := by
  have h1 : 2 ^ (q % 64) < 18446744073709551616 := Nat.pow_lt_pow_right (a := 2) (by decide) (show q % 64 < 64 by omega)
  rw [pow_u64 (by omega), u64_or_nat _ _ (rowAt_lt _ _) h1, rowAt_or F q hq]
theorem open_any (w : World) (b c r : Nat) (m : M) (F : List Bool) (p : Nat) (h : AtF w b c r m F) (hF : F.length = m.cells.length) (hp : p < m.cells.length) (hl : m.cells.length ≤ 65535) :
    Calls Tryd.prog 55 #[.pointer (some ⟨b, 0, none⟩), .int .i64 (p : Int)] w fun e w' => e = .returned (.tuple #[]) ∧ AtF w' b c r m (F.set p true) ∧ Kept b c r w w' := by
  have h1 := h.head.h1
  have h2 := h.rw (p / 64) (by omega)
  have h3 := h.own.fr (p / 64)
  have ho := Lib.hid (or_row F p (by omega))
  have hs := Lib.hid (h.row (q := p) true)
  clear h
  go_enter Tryd.func55, Tryd.ntmps55
  go_region
  all_goals
    rw [ho.out]
    exact bodyPost_end (results_none rfl _ _ _) rfl ⟨rfl, hs.out.drew, ((Kept.refl b c r w).set (.inr (.inr rfl)) _).drew⟩

/-- The place of the cell that a handle names, if it isn't stale. -/
def M.seek (m : M) (h : Int) : Option Nat :=
  if isH h = true then
    match m.cells[(h % 65536 - 1).toNat]? with
    | some x => if x.held.busy = true ∧ x.gen = h / 65536 then some (h % 65536 - 1).toNat else none
    | none => none
  else none
def M.find (m : M) (h : Int) : M := match m.seek h with
  | some _ => { m with count := m.count + 1 }
  | none => { m with count := m.count + 1, stale := m.stale + 1 }
/-- What is true of whatever memory the calls make: N bounds its counts. -/
structure M.Ok (N : Int) (m : M) : Prop where
  len : m.cells.length ≤ 65535
  gen : ∀ (i : Nat) (x : Cl), m.cells[i]? = some x → 0 ≤ x.gen ∧ x.gen ≤ 16384 ∧ (x.ret = true → x.held.busy = true) ∧ (x.held.busy = true → x.gen ≤ 16383)
  cnt : 0 ≤ m.count ∧ m.count ≤ N
  liv : -N ≤ m.live ∧ m.live ≤ N
  stl : 0 ≤ m.stale ∧ m.stale ≤ N
theorem M.seek_some {m : M} {h : Int} {p : Nat} (hs : m.seek h = some p) : isH h = true ∧ (p : Int) = h % 65536 - 1 ∧ ∃ x, m.cells[p]? = some x ∧ x.held.busy = true ∧ x.gen = h / 65536 := by
  unfold M.seek at hs
  split at hs
  · rename_i hi
    split at hs
    · rename_i x hx
      split at hs
      · rename_i hb
        cases hs
        have := of_decide_eq_true hi
        exact ⟨hi, by omega, x, hx, hb.1, hb.2⟩
      · cases hs
    · cases hs
  · cases hs

theorem load_20 {w : World} {p : Addr} {v : Value} (h : w.cell? p = some v) : (Instr.loadAt 20 (.pointer (some p))).run Tryd.prog w = .ok v w := by
  go_simp
theorem load_3 {w : World} {p : Addr} {n : Int} (h : w.cell? p = some (.int .i64 n)) : (Instr.loadAt 3 (.pointer (some p))).run Tryd.prog w = .ok (.int .i64 n) w := by
  go_simp
theorem neq20_yes {t : TypeId} {v : Value} (xo yo : Operand) (w : World) : (eqGuard .neq 20 xo yo (.iface t v) .nilIface).run Tryd.prog w = .ok () w ∧ (binOp .neq 20 (.iface t v) .nilIface).run Tryd.prog w = .ok (.bool true) w :=
  ⟨by go_simp, by go_simp⟩
theorem neq20_no (xo : Operand) (w : World) : (eqGuard .neq 20 xo (.const .nilIface) .nilIface .nilIface).run Tryd.prog w = .ok () w ∧ (binOp .neq 20 .nilIface .nilIface).run Tryd.prog w = .ok (.bool false) w :=
  ⟨by simp [eqGuard], by go_simp⟩
theorem cmp_eql3 {a b : Int} {r : Bool} (xo yo : Operand) (w : World) (h : (a == b) = r) : (eqGuard .eql 3 xo yo (.int .i64 a) (.int .i64 b)).run Tryd.prog w = .ok () w ∧ (binOp .eql 3 (.int .i64 a) (.int .i64 b)).run Tryd.prog w = .ok (.bool r) w :=
  ⟨by simp [eqGuard], by subst h; go_simp⟩
theorem enter_43 (xs : Array Value) (w : World) : (callFunc 102 xs).run Tryd.prog w = .ok (.enter 102 xs) w := by kernel_rfl
theorem Held.iface {x : Held} (h : x.busy = true) : ∃ t v, x.v = .iface t v := by
  cases x
  · cases h
  all_goals exact ⟨_, _, rfl⟩
theorem Held.not {x : Held} (h : ¬ x.busy = true) : x = .no := by
  cases x
  · rfl
  all_goals exact absurd rfl h

set_option maxHeartbeats 1000000 in
theorem find_no (w : World) (b c r : Nat) (m : M) (h : Int) (hA : At w b c r m) (hO : m.Ok 4611686018427387904) (hs : m.seek h = none) :
    Calls Tryd.prog 87 #[.pointer (some ⟨b, 0, none⟩), .int .i64 h] w fun e w' => e = .returned (.pointer none) ∧ At w' b c r { m with count := m.count + 1, stale := m.stale + 1 } ∧ Kept b c r w w' := by
  have mixed : Tryd.prog.follows .mixedOrders = true := by kernel_rfl
  have h2 := hA.head.h2
  have fb := hA.own.fb
  have hc := hO.cnt
  have hsl := hO.stl
  have hln := hO.len
  have hA1 := hA.count (m.count + 1)
  have hK1 := (Kept.refl b c r w).set (a := ⟨b, 2, none⟩) (.inl rfl) (.int .i64 (m.count + 1))
  obtain ⟨w1, hw1⟩ : ∃ w1, w1 = w.setCell ⟨b, 2, none⟩ (.int .i64 (m.count + 1)) := ⟨_, rfl⟩
  rw [← hw1] at hA1 hK1
  have HW := Lib.hid hw1
  clear hA hw1
  have h0 := hA1.head.h0
  have hcl := hA1.cl
  have hcs := hA1.own.lc
  have HA1 := Lib.hid hA1
  have HK1 := Lib.hid hK1
  simp only at h0 hcl
  clear hA1 hK1
  go_enter Tryd.func87, Tryd.ntmps87
  go_wp2_with fail
  rw [← HW.out]
  clear h2 fb
  refine (place_any h _).mono ?_
  rintro e w2 ⟨rfl, rfl⟩
  cases hi : isH h
  · have e1 : placeOf h = -1 := by simp [placeOf, hi]
    rw [e1]
    clear e1 hcl
    have h4 := HA1.out.head.h4
    have fb1 := HA1.out.own.fb
    have HA := Lib.hid (HA1.out.stale (m.stale + 1))
    have HK := Lib.hid (HK1.out.set (a := ⟨b, 4, none⟩) (.inl rfl) (.int .i64 (m.stale + 1)))
    simp only at h4
    go_wp2
    go_ret
    exact ⟨rfl, HA.out, HK.out⟩
  · have hi2 := of_decide_eq_true hi
    have e1 : placeOf h = h % 65536 - 1 := by simp [placeOf, hi]
    obtain ⟨p, hp⟩ : ∃ p : Nat, (p : Int) = h % 65536 - 1 := ⟨(h % 65536 - 1).toNat, by omega⟩
    have hp2 : (h % 65536 - 1).toNat = p := by omega
    have eg : genOf h = h / 65536 := by simp [genOf, hi]
    have hgen := fun w => gen_any h w
    rw [eg] at hgen
    rw [e1, ← hp]
    clear e1 eg
    by_cases hl : p < m.cells.length
    · have hl2 : (p : Int) < (m.cells.length : Int) := by omega
      obtain ⟨x, hx⟩ : ∃ x, m.cells[p]? = some x := ⟨_, List.getElem?_eq_getElem hl⟩
      obtain ⟨k0, k1, _, _⟩ := hcl p x hx
      have HB : Hid (¬ (x.held.busy = true ∧ x.gen = h / 65536)) := by
        intro hb
        simp [M.seek, hi, hp2, hx, hb.1, hb.2] at hs
      clear hp hp2 hi2 hcl hx hs hi
      by_cases hbz : x.held.busy = true
      · have hg : ¬ x.gen = h / 65536 := fun e => HB.out ⟨hbz, e⟩
        have hg2 : (x.gen == h / 65536) = false := by simpa using hg
        obtain ⟨ty, v, ev⟩ := Held.iface hbz
        rw [ev] at k0
        clear hbz hg ev HB
        go_wp2_with fail
        refine FreeU.region_puts (S := fun _ _ W => Below w1.heap.size w1 W) (effs := [])
          (tab := [⟨1, fun _ => [.pointer (some ⟨c, p * 4, none⟩)], fun _ => .pointer (some ⟨c, p * 4, none⟩), .pure⟩,
            ⟨3, fun _ => [.pointer (some ⟨c, p * 4, none⟩)], fun _ => .iface ty v, .read⟩,
            ⟨4, fun _ => [.iface ty v, .nilIface], fun _ => .bool true, .pure⟩,
            ⟨7, fun _ => [.pointer (some ⟨c, p * 4, none⟩)], fun _ => .pointer (some ⟨c, p * 4, none⟩), .pure⟩,
            ⟨9, fun _ => [.pointer (some ⟨c, p * 4 + 1, none⟩)], fun _ => .int .i64 x.gen, .read⟩,
            ⟨11, fun _ => [.func (.func 102) #[] #[], .int .i64 h], fun _ => .int .i64 (h / 65536), .ask⟩,
            ⟨12, fun _ => [.int .i64 x.gen, .int .i64 (h / 65536)], fun _ => .bool false, .pure⟩])
          (vs := [([], fun _ => .pointer (some ⟨c, p * 4, none⟩)), ([], fun _ => .pointer (some ⟨c, p * 4, none⟩)), ([], fun _ => .pointer (some ⟨c, p * 4, none⟩)), ([], fun _ => .iface ty v), ([], fun _ => .bool true), ([], fun _ => .bool true), ([], fun _ => .pointer (some ⟨c, p * 4, none⟩)), ([], fun _ => .pointer (some ⟨c, p * 4, none⟩)), ([], fun _ => .pointer (some ⟨c, p * 4 + 1, none⟩)), ([], fun _ => .int .i64 x.gen), ([], fun _ => .int .i64 h), ([], fun _ => .int .i64 (h / 65536)), ([], fun _ => .bool false), ([], fun _ => .bool false)])
          (by kernel_rfl) ⟨by kernel_rfl, ⟨FreeU.d_nil _ rfl rfl,
            FreeU.d_load _ rfl rfl (fun β bs w h hd => load_20 ((h.cell (p := ⟨c, p * 4, none⟩) hcs).trans k0)),
            FreeU.d_bin _ rfl rfl (fun _ xo yo w => neq20_yes xo yo w),
            FreeU.d_nil _ rfl rfl,
            FreeU.d_load _ rfl rfl (fun β bs w h hd => load_3 ((h.cell (p := ⟨c, p * 4 + 1, none⟩) hcs).trans k1)),
            FreeU.d_ask1 _ rfl rfl enter_43 (fun β bs w h hd => (hgen w).mono (fun e w2 ⟨e1, e2⟩ => ⟨e1, e2 ▸ h⟩)),
            FreeU.d_bin _ rfl rfl (fun _ xo yo w => cmp_eql3 xo yo w hg2),
            trivial⟩,
            fun β => by kernel_rfl, fun β => by kernel_rfl, by kernel_rfl, fun β => by kernel_rfl, by kernel_rfl⟩ (Below.refl _ _).drew (fun β => Free.from_ 33 [.pointer (some ⟨c, p * 4, none⟩), .pointer (some ⟨c, p * 4, none⟩), .pointer (some ⟨c, p * 4, none⟩), .iface ty v, .bool true, .bool true, .pointer (some ⟨c, p * 4, none⟩), .pointer (some ⟨c, p * 4, none⟩), .pointer (some ⟨c, p * 4 + 1, none⟩), .int .i64 x.gen, .int .i64 h, .int .i64 (h / 65536), .bool false, .bool false]) (fun β => by kernel_rfl) ?_
        intro β w4 h4
        rw [Free.puts_from _ _ _ (Nat.le_of_ble_eq_true rfl)]
        simp only [List.take_succ_cons, List.take_zero, List.drop_succ_cons, List.drop_zero, List.cons_append, List.nil_append, List.length_cons, List.length_nil, Nat.reduceAdd]
        have HA4 := Lib.hid (HA1.out.below h4)
        have HK4 := Lib.hid (HK1.out.trans (Kept.of h4))
        clear h4
        have h4 := HA4.out.head.h4
        have fb1 := HA4.out.own.fb
        have HA := Lib.hid (HA4.out.stale (m.stale + 1))
        have HK := Lib.hid (HK4.out.set (a := ⟨b, 4, none⟩) (.inl rfl) (.int .i64 (m.stale + 1)))
        simp only at h4
        go_wp2
        go_ret
        exact ⟨rfl, HA.out, HK.out⟩
      · rw [Held.not hbz] at k0
        simp only [Held.v] at k0
        clear hbz HB
        go_wp2_with fail
        refine FreeU.region_puts (S := fun _ _ W => Below w1.heap.size w1 W) (effs := [])
          (tab := [⟨1, fun _ => [.pointer (some ⟨c, p * 4, none⟩)], fun _ => .pointer (some ⟨c, p * 4, none⟩), .pure⟩,
            ⟨3, fun _ => [.pointer (some ⟨c, p * 4, none⟩)], fun _ => .nilIface, .read⟩,
            ⟨4, fun _ => [.nilIface, .nilIface], fun _ => .bool false, .pure⟩])
          (vs := [([], fun _ => .pointer (some ⟨c, p * 4, none⟩)), ([], fun _ => .pointer (some ⟨c, p * 4, none⟩)), ([], fun _ => .pointer (some ⟨c, p * 4, none⟩)), ([], fun _ => .nilIface), ([], fun _ => .bool false), ([], fun _ => .bool false), ([], fun _ => undef), ([], fun _ => undef), ([], fun _ => undef), ([], fun _ => undef), ([], fun _ => undef), ([], fun _ => undef), ([], fun _ => undef), ([], fun _ => .bool false)])
          (by kernel_rfl) ⟨by kernel_rfl, ⟨FreeU.d_nil _ rfl rfl,
            FreeU.d_load _ rfl rfl (fun β bs w h hd => load_20 ((h.cell (p := ⟨c, p * 4, none⟩) hcs).trans k0)),
            FreeU.d_binc _ rfl rfl (fun _ xo w => neq20_no xo w),
            trivial⟩,
            fun β => by kernel_rfl, fun β => by kernel_rfl, by kernel_rfl, fun β => by kernel_rfl, by kernel_rfl⟩ (Below.refl _ _).drew (fun β => Free.from_ 33 [.pointer (some ⟨c, p * 4, none⟩), .pointer (some ⟨c, p * 4, none⟩), .pointer (some ⟨c, p * 4, none⟩), .nilIface, .bool false, .bool false, undef, undef, undef, undef, undef, undef, undef, .bool false]) (fun β => by kernel_rfl) ?_
        intro β w4 h4
        rw [Free.puts_from _ _ _ (Nat.le_of_ble_eq_true rfl)]
        simp only [List.take_succ_cons, List.take_zero, List.drop_succ_cons, List.drop_zero, List.cons_append, List.nil_append, List.length_cons, List.length_nil, Nat.reduceAdd]
        have HA4 := Lib.hid (HA1.out.below h4)
        have HK4 := Lib.hid (HK1.out.trans (Kept.of h4))
        clear h4
        have h4 := HA4.out.head.h4
        have fb1 := HA4.out.own.fb
        have HA := Lib.hid (HA4.out.stale (m.stale + 1))
        have HK := Lib.hid (HK4.out.set (a := ⟨b, 4, none⟩) (.inl rfl) (.int .i64 (m.stale + 1)))
        simp only at h4
        go_wp2
        go_ret
        exact ⟨rfl, HA.out, HK.out⟩
    · clear hp2 hp hi2 hcl hs
      have hl2 : ¬ (p : Int) < (m.cells.length : Int) := by omega
      have h4 := HA1.out.head.h4
      have fb1 := HA1.out.own.fb
      have HA := Lib.hid (HA1.out.stale (m.stale + 1))
      have HK := Lib.hid (HK1.out.set (a := ⟨b, 4, none⟩) (.inl rfl) (.int .i64 (m.stale + 1)))
      simp only at h4
      go_wp2
      go_ret
      exact ⟨rfl, HA.out, HK.out⟩

set_option maxHeartbeats 1000000 in
theorem find_yes (w : World) (b c r : Nat) (m : M) (h : Int) (p : Nat) (hA : At w b c r m) (hO : m.Ok 4611686018427387904) (hs : m.seek h = some p) :
    Calls Tryd.prog 87 #[.pointer (some ⟨b, 0, none⟩), .int .i64 h] w fun e w' => e = .returned (.pointer (some ⟨c, p * 4, none⟩)) ∧ At w' b c r { m with count := m.count + 1 } ∧ Kept b c r w w' := by
  obtain ⟨hi, hp, x, hx, hbz, hg⟩ := M.seek_some hs
  have mixed : Tryd.prog.follows .mixedOrders = true := by kernel_rfl
  have h2 := hA.head.h2
  have fb := hA.own.fb
  have hc := hO.cnt
  have hsl := hO.stl
  have hln := hO.len
  have hA1 := hA.count (m.count + 1)
  have hK1 := (Kept.refl b c r w).set (a := ⟨b, 2, none⟩) (.inl rfl) (.int .i64 (m.count + 1))
  obtain ⟨w1, hw1⟩ : ∃ w1, w1 = w.setCell ⟨b, 2, none⟩ (.int .i64 (m.count + 1)) := ⟨_, rfl⟩
  rw [← hw1] at hA1 hK1
  have HW := Lib.hid hw1
  clear hA hw1
  have h0 := hA1.head.h0
  have hcl := hA1.cl
  have hcs := hA1.own.lc
  have HA1 := Lib.hid hA1
  have HK1 := Lib.hid hK1
  simp only at h0 hcl
  clear hA1 hK1
  go_enter Tryd.func87, Tryd.ntmps87
  go_wp2_with fail
  rw [← HW.out]
  clear h2 fb
  refine (place_any h _).mono ?_
  rintro e w2 ⟨rfl, rfl⟩
  have hi2 := of_decide_eq_true hi
  have e1 : placeOf h = h % 65536 - 1 := by simp [placeOf, hi]
  have eg : genOf h = h / 65536 := by simp [genOf, hi]
  have hgen := fun w => gen_any h w
  rw [eg] at hgen
  rw [e1, ← hp]
  clear e1 eg
  have hl : p < m.cells.length := (List.getElem?_eq_some_iff.1 hx).1
  have hl2 : (p : Int) < (m.cells.length : Int) := by omega
  obtain ⟨k0, k1, _, _⟩ := hcl p x hx
  have hg2 : (x.gen == h / 65536) = true := by simpa using hg
  obtain ⟨ty, v, ev⟩ := Held.iface hbz
  rw [ev] at k0
  clear hbz hg ev hp hi2 hcl hx hs hi
  go_wp2_with fail
  refine FreeU.region_puts (S := fun _ _ W => Below w1.heap.size w1 W) (effs := [])
    (tab := [⟨1, fun _ => [.pointer (some ⟨c, p * 4, none⟩)], fun _ => .pointer (some ⟨c, p * 4, none⟩), .pure⟩,
      ⟨3, fun _ => [.pointer (some ⟨c, p * 4, none⟩)], fun _ => .iface ty v, .read⟩,
      ⟨4, fun _ => [.iface ty v, .nilIface], fun _ => .bool true, .pure⟩,
      ⟨7, fun _ => [.pointer (some ⟨c, p * 4, none⟩)], fun _ => .pointer (some ⟨c, p * 4, none⟩), .pure⟩,
      ⟨9, fun _ => [.pointer (some ⟨c, p * 4 + 1, none⟩)], fun _ => .int .i64 x.gen, .read⟩,
      ⟨11, fun _ => [.func (.func 102) #[] #[], .int .i64 h], fun _ => .int .i64 (h / 65536), .ask⟩,
      ⟨12, fun _ => [.int .i64 x.gen, .int .i64 (h / 65536)], fun _ => .bool true, .pure⟩])
    (vs := [([], fun _ => .pointer (some ⟨c, p * 4, none⟩)), ([], fun _ => .pointer (some ⟨c, p * 4, none⟩)), ([], fun _ => .pointer (some ⟨c, p * 4, none⟩)), ([], fun _ => .iface ty v), ([], fun _ => .bool true), ([], fun _ => .bool true), ([], fun _ => .pointer (some ⟨c, p * 4, none⟩)), ([], fun _ => .pointer (some ⟨c, p * 4, none⟩)), ([], fun _ => .pointer (some ⟨c, p * 4 + 1, none⟩)), ([], fun _ => .int .i64 x.gen), ([], fun _ => .int .i64 h), ([], fun _ => .int .i64 (h / 65536)), ([], fun _ => .bool true), ([], fun _ => .bool true)])
    (by kernel_rfl) ⟨by kernel_rfl, ⟨FreeU.d_nil _ rfl rfl,
      FreeU.d_load _ rfl rfl (fun β bs w h hd => load_20 ((h.cell (p := ⟨c, p * 4, none⟩) hcs).trans k0)),
      FreeU.d_bin _ rfl rfl (fun _ xo yo w => neq20_yes xo yo w),
      FreeU.d_nil _ rfl rfl,
      FreeU.d_load _ rfl rfl (fun β bs w h hd => load_3 ((h.cell (p := ⟨c, p * 4 + 1, none⟩) hcs).trans k1)),
      FreeU.d_ask1 _ rfl rfl enter_43 (fun β bs w h hd => (hgen w).mono (fun e w2 ⟨e1, e2⟩ => ⟨e1, e2 ▸ h⟩)),
      FreeU.d_bin _ rfl rfl (fun _ xo yo w => cmp_eql3 xo yo w hg2),
      trivial⟩,
      fun β => by kernel_rfl, fun β => by kernel_rfl, by kernel_rfl, fun β => by kernel_rfl, by kernel_rfl⟩ (Below.refl _ _).drew (fun β => Free.from_ 33 [.pointer (some ⟨c, p * 4, none⟩), .pointer (some ⟨c, p * 4, none⟩), .pointer (some ⟨c, p * 4, none⟩), .iface ty v, .bool true, .bool true, .pointer (some ⟨c, p * 4, none⟩), .pointer (some ⟨c, p * 4, none⟩), .pointer (some ⟨c, p * 4 + 1, none⟩), .int .i64 x.gen, .int .i64 h, .int .i64 (h / 65536), .bool true, .bool true]) (fun β => by kernel_rfl) ?_
  intro β w4 h4
  rw [Free.puts_from _ _ _ (Nat.le_of_ble_eq_true rfl)]
  simp only [List.take_succ_cons, List.take_zero, List.drop_succ_cons, List.drop_zero, List.cons_append, List.nil_append, List.length_cons, List.length_nil, Nat.reduceAdd]
  have HA4 := Lib.hid (HA1.out.below h4)
  have HK4 := Lib.hid (HK1.out.trans (Kept.of h4))
  clear h4
  go_wp2
  go_ret
  exact ⟨rfl, HA4.out, HK4.out⟩
end Go.Proofs.YtibimnibmengpaaDoor
/- What findWord, drop and take answer and make of memory. Conditions: counts and live cells are below 2 to the 62; generations are between 0 and 16384; what is taken isn't nothing; the library's table stands. -/
namespace Go.Proofs.YtibimnibmengpaaDoor
open Go.RowKit Go.Op
set_option maxRecDepth 100000

theorem as69_word (v : Value) (w : World) : (Instr.typeAssert (.iface 128 v) 20 128 true).run Tryd.prog w = .ok (.tuple #[v, .bool true]) w := by kernel_rfl
theorem as69_blk (d : Dat) (p : Pl) (w : World) : (Instr.typeAssert (.iface d.ty (d.v p)) 20 128 true).run Tryd.prog w = .ok (.tuple #[.int .i64 0, .bool false]) w := by cases d <;> kernel_rfl

theorem fword_no (w : World) (b c r : Nat) (m : M) (h : Int) (hA : At w b c r m) (hO : m.Ok 4611686018427387904) (hs : m.seek h = none) :
    Calls Tryd.prog 67 #[.pointer (some ⟨b, 0, none⟩), .int .i64 h] w fun e w' => e = .returned (.tuple #[.pointer none, .int .i64 0, .int .i64 5]) ∧ At w' b c r { m with count := m.count + 1, stale := m.stale + 1 } ∧ Kept b c r w w' := by
  have hf := find_no w b c r m h hA hO hs
  clear hA hO hs
  go_enter Tryd.func67, Tryd.ntmps67
  go_wp2_with fail
  refine hf.mono ?_
  rintro e w1 ⟨rfl, h1, h2⟩
  have HA := Lib.hid (⟨h1, h2⟩ : _ ∧ _)
  clear h1 h2
  go_wp2
  exact bodyPost_ret (by simp [results, Tryd.results67, go_sem]) rfl ⟨rfl, HA.out⟩
theorem fword_word (w : World) (b c r : Nat) (m : M) (h : Int) (p : Nat) (x : Cl) (n : Int) (hA : At w b c r m) (hO : m.Ok 4611686018427387904) (hs : m.seek h = some p) (hx : m.cells[p]? = some x) (hn : x.held = .word n) :
    Calls Tryd.prog 67 #[.pointer (some ⟨b, 0, none⟩), .int .i64 h] w fun e w' => e = .returned (.tuple #[.pointer (some ⟨c, p * 4, none⟩), .int .i64 n, .int .i64 0]) ∧ At w' b c r { m with count := m.count + 1 } ∧ Kept b c r w w' := by
  have hf := find_yes w b c r m h p hA hO hs
  have t1 := as69_word
  clear hA hO hs
  go_enter Tryd.func67, Tryd.ntmps67
  go_wp2_with fail
  refine hf.mono ?_
  rintro e w1 ⟨rfl, h1, h2⟩
  have hc := (h1.cl p x hx).1
  rw [hn] at hc
  simp only [Held.v] at hc
  have HA := Lib.hid (⟨h1, h2⟩ : _ ∧ _)
  clear h1 h2 hx hn
  go_wp2
  exact bodyPost_ret (by simp [results, Tryd.results67, go_sem]) rfl ⟨rfl, HA.out⟩
theorem fword_blk (w : World) (b c r : Nat) (m : M) (h : Int) (p : Nat) (x : Cl) (d : Dat) (pl : Pl) (hA : At w b c r m) (hO : m.Ok 4611686018427387904) (hs : m.seek h = some p) (hx : m.cells[p]? = some x) (hn : x.held = .blk d pl) :
    Calls Tryd.prog 67 #[.pointer (some ⟨b, 0, none⟩), .int .i64 h] w fun e w' => e = .returned (.tuple #[.pointer none, .int .i64 0, .int .i64 6]) ∧ At w' b c r { m with count := m.count + 1 } ∧ Kept b c r w w' := by
  have hf := find_yes w b c r m h p hA hO hs
  have t1 := as69_blk
  clear hA hO hs
  go_enter Tryd.func67, Tryd.ntmps67
  go_wp2_with fail
  refine hf.mono ?_
  rintro e w1 ⟨rfl, h1, h2⟩
  have hc := (h1.cl p x hx).1
  rw [hn] at hc
  simp only [Held.v] at hc
  have HA := Lib.hid (⟨h1, h2⟩ : _ ∧ _)
  clear h1 h2 hx hn
  go_wp2
  exact bodyPost_ret (by simp [results, Tryd.results67, go_sem]) rfl ⟨rfl, HA.out⟩

/-- The cell at a place, freed. -/
def Cl.freed (x : Cl) : Cl := ⟨.no, x.gen + 1, false, 0⟩
theorem set_val {α : Type} {l : List α} {p : Nat} {v : α} (h : l[p]? = some v) : l.set p v = l := by
  apply List.ext_getElem?
  intro i
  rw [List.getElem?_set]
  split
  · rename_i e
    subst e
    rw [h, if_pos (List.getElem?_eq_some_iff.1 h).1]
  · rfl
theorem flags_set (m : M) (p : Nat) (y : Cl) (a b c : Int) : M.flags ⟨m.cells.set p y, a, b, c⟩ = m.flags.set p y.can := by simp [M.flags, List.map_set]
theorem flags_at {m : M} {p : Nat} {x : Cl} (hx : m.cells[p]? = some x) : m.flags[p]? = some x.can := by simp [M.flags, hx]
theorem can_busy {x : Cl} (h : x.held.busy = true) : x.can = false := by simp [Cl.can, h]
theorem drop_any (w : World) (b c r : Nat) (m : M) (p : Nat) (x : Cl) (hA : At w b c r m) (hO : m.Ok 4611686018427387904) (hx : m.cells[p]? = some x) (hb : x.held.busy = true) :
    Calls Tryd.prog 111 #[.pointer (some ⟨b, 0, none⟩), .int .i64 (p : Int)] w fun e w' => e = .returned (.tuple #[]) ∧ At w' b c r { m with cells := m.cells.set p x.freed, live := m.live - 1 } ∧ Kept b c r w w' := by
  have hl : p < m.cells.length := (List.getElem?_eq_some_iff.1 hx).1
  have hl2 : (p : Int) < (m.cells.length : Int) := by omega
  have hln := hO.len
  have hlv := hO.liv
  obtain ⟨hg0, hg1, _, _⟩ := hO.gen p x hx
  have h0 := hA.head.h0
  have h3 := hA.head.h3
  obtain ⟨k0, k1, k2, k3⟩ := hA.cl p x hx
  have fb := hA.own.fb
  have fc := hA.own.fc
  have bc := hA.own.bc
  have q0 := (hA.cl p x hx).put0 .no
  have q1 := q0.put1 (x.gen + 1)
  have q2 := q1.put2 false
  have q3 := q2.put3 0
  have HA := Lib.hid ((((((hA.put (by omega) q0).put (i := p) (by simp) q1).put (i := p) (by simp) q2).put (i := p) (by simp) q3).live (m.live - 1)))
  have HK := Lib.hid (((((Kept.refl b c r w).set (a := ⟨c, p * 4, none⟩) (.inr (.inl rfl)) .nilIface).set (a := ⟨c, p * 4 + 1, none⟩) (.inr (.inl rfl)) (.int .i64 (x.gen + 1))).set (a := ⟨c, p * 4 + 2, none⟩) (.inr (.inl rfl)) (.bool false)).set (a := ⟨c, p * 4 + 3, none⟩) (.inr (.inl rfl)) (.int .i64 0) |>.set (a := ⟨b, 3, none⟩) (.inl rfl) (.int .i64 (m.live - 1)))
  simp only [Held.v, List.set_set] at HA
  have HF : Hid (m.flags[p]? = some false) := by
    have := flags_at hx
    rwa [can_busy hb] at this
  have HG := Lib.hid (show x.freed.can = decide (x.gen + 1 ≤ 16383) from rfl)
  have HO := Lib.hid (fun w2 h => open_any w2 b c r { m with cells := m.cells.set p x.freed, live := m.live - 1 } m.flags p h (by simp [M.flags]) (by simpa using hl) (by simpa using hln))
  clear hA hO hx hb q0 q1 q2 q3 hl
  by_cases hg : x.gen + 1 ≤ 16383
  · go_enter Tryd.func111, Tryd.ntmps111
    go_wp2_with fail
    refine (HO.out _ HA.out).mono ?_
    rintro e w1 ⟨rfl, h1, h2⟩
    have HE : Hid (At w1 b c r { m with cells := m.cells.set p x.freed, live := m.live - 1 } ∧ Kept b c r w w1) := by
      refine ⟨?_, HK.out.trans h2⟩
      unfold At
      rw [flags_set, HG.out, decide_eq_true hg]
      exact h1
    clear h1 h2
    go_wp2
    exact bodyPost_end (results_none rfl _ _ _) rfl ⟨rfl, HE.out⟩
  · go_enter Tryd.func111, Tryd.ntmps111
    go_wp2
    refine bodyPost_end (results_none rfl _ _ _) rfl ⟨rfl, ?_, HK.out⟩
    unfold At
    rw [flags_set, HG.out, decide_eq_false (by omega), set_val HF.out]
    exact HA.out

theorem zero_rows (F : List Bool) : ∀ j, 64 * j ≤ F.length → (∀ i, i < j → rowAt F i = 0) → 64 * j ≤ F.findIdx id
  | 0, _, _ => by omega
  | j + 1, h, hz => by
    have ih := zero_rows F j (by omega) (fun i hi => hz i (by omega))
    rcases find_row F j ih (by omega) with ⟨_, _, h3 | h3⟩ | ⟨h1, _⟩
    · exact h3
    · omega
    · exact absurd (hz j (by omega)) h1
theorem all_rows (F : List Bool) (hz : ∀ i, i < (F.length + 63) / 64 → rowAt F i = 0) : F.findIdx id = F.length := by
  have hle : F.findIdx id ≤ F.length := List.findIdx_le_length
  by_cases h0 : F.length = 0
  · omega
  · have h1 := zero_rows F ((F.length - 1) / 64) (by omega) (fun i hi => hz i (by omega))
    rcases find_row F _ h1 (by omega) with ⟨_, _, h3 | h3⟩ | ⟨h2, _⟩
    · omega
    · exact h3
    · exact absurd (hz _ (by omega)) h2
/-- The least place whose cell may be taken; as many as there are cells: none. -/
def M.least (m : M) : Nat := m.flags.findIdx id
theorem least_row {m : M} {j : Nat} (hj : j < (m.cells.length + 63) / 64) (hz : ∀ i, i < j → rowAt m.flags i = 0) :
    (rowAt m.flags j = 0) ∨ (rowAt m.flags j ≠ 0 ∧ Lib.ctz 64 (rowAt m.flags j) < 64 ∧ m.least = 64 * j + Lib.ctz 64 (rowAt m.flags j) ∧ m.least < m.cells.length ∧ rowAt m.flags j &&& (rowAt m.flags j - 1) = rowAt (m.flags.set m.least false) j) := by
  have hl : m.flags.length = m.cells.length := by simp [M.flags]
  have h1 := zero_rows m.flags j (by omega) hz
  rcases find_row m.flags j h1 (by omega) with ⟨h2, _⟩ | ⟨h2, h3, h4⟩
  · exact .inl h2
  · have h5 := row_ctz _ _ h3 h2
    have h6 := row_clear _ _ h3
    have h7 := row_len m.flags j
    rw [← h4] at h6
    refine .inr ⟨h2, by omega, ?_, ?_, h6⟩
    · rw [h5]; exact h4
    · show m.flags.findIdx id < _
      omega
theorem less_u64 {x : Nat} (h : x < 18446744073709551616) (h0 : x ≠ 0) : bits .and .u64 (x : Int) (IntKind.u64.wrap ((x : Int) - 1)) = ((x &&& (x - 1) : Nat) : Int) := by
  have hw : ∀ n : Int, IntKind.u64.wrap n = n % 18446744073709551616 := fun n => by simp [IntKind.wrap, IntKind.signed, IntKind.bits]
  rw [hw, show ((x : Int) - 1) % 18446744073709551616 = ((x - 1 : Nat) : Int) by omega, u64_and_nat _ _ h (by omega)]

theorem take_no (w : World) (b c r : Nat) (m : M) (t : Value) (hA : At w b c r m) (hO : m.Ok 4611686018427387904) (hl : m.least = m.cells.length) :
    Calls Tryd.prog 105 #[.pointer (some ⟨b, 0, none⟩), t] w fun e w' => e = .returned (.tuple #[.int .i64 0, .int .i64 3]) ∧ w = w' := by
  have hln := hO.len
  have h1 := hA.head.h1
  have HR := Lib.hid hA.rw
  have HL := Lib.hid (fun j hj hz => least_row (m := m) (j := j) hj hz)
  clear hA hO
  go_enter Tryd.func105, Tryd.ntmps105
  go_wp2_with fail
  go_loop [14] (fun iv => ∃ j : Nat, j ≤ (m.cells.length + 63) / 64 ∧ iv = .int .i64 (j : Int) ∧ Hid (∀ i, i < j → rowAt m.flags i = 0)) (fun iv => (m.cells.length + 63) / 64 - (intOf iv).toNat)
  case atStart => exact ⟨0, by omega, rfl, fun i hi => absurd hi (by omega)⟩
  case round =>
    obtain ⟨j, hj, rfl, hz⟩ := hrel
    by_cases hlt : j < (m.cells.length + 63) / 64
    · have j1 : (j : Int) < (((m.cells.length + 63) / 64 : Nat) : Int) := by omega
      have hrow := HR.out j hlt
      have hj0 : rowAt m.flags j = 0 := by
        rcases HL.out j hlt hz with h | ⟨_, _, _, h, _⟩
        · exact h
        · omega
      rw [hj0] at hrow
      have HZ : Hid (∀ i, i < j + 1 → rowAt m.flags i = 0) := fun i hi => by
        by_cases e : i = j
        · rw [e]; exact hj0
        · exact hz i (by omega)
      clear hz hj0
      go_wp2
      go_round
      case rel => exact ⟨j + 1, by omega, by go_num, HZ⟩
      case measure => simp [intOf]; omega
    · have j1 : ¬ (j : Int) < (((m.cells.length + 63) / 64 : Nat) : Int) := by omega
      clear hz
      go_wp2
      go_ret2
      exact ⟨rfl, rfl⟩

set_option maxHeartbeats 1000000 in
theorem take_yes (w : World) (b c r : Nat) (m : M) (t : Held) (x : Cl) (hA : At w b c r m) (hO : m.Ok 4611686018427387904) (hT : TabAt w) (r0 : r ≠ 0) (hx : m.cells[m.least]? = some x) (hb : t.busy = true) :
    Calls Tryd.prog 105 #[.pointer (some ⟨b, 0, none⟩), t.v] w fun e w' => e = .returned (.tuple #[.int .i64 (hand m.least x.gen), .int .i64 0]) ∧ At w' b c r { m with cells := m.cells.set m.least { x with held := t }, live := m.live + 1 } ∧ Kept b c r w w' := by
  have hln := hO.len
  have hlv := hO.liv
  have h0 := hA.head.h0
  have h1 := hA.head.h1
  have h3 := hA.head.h3
  have fb := hA.own.fb
  have fc := hA.own.fc
  have fr := hA.own.fr
  have bc := hA.own.bc
  have br := hA.own.br
  have cr := hA.own.cr
  have hl : m.least < m.cells.length := (List.getElem?_eq_some_iff.1 hx).1
  have HR := Lib.hid hA.rw
  have HL := Lib.hid (fun j hj hz => least_row (m := m) (j := j) hj hz)
  have HQ : Hid (∀ j, m.least / 64 = j → ∀ u, u = Value.int .u64 (rowAt (m.flags.set m.least false) j : Nat) → At ((((w.setCell ⟨r, j, none⟩ u).setCell ⟨c, m.least * 4, none⟩ t.v)).setCell ⟨b, 3, none⟩ (.int .i64 (m.live + 1))) b c r { m with cells := m.cells.set m.least { x with held := t }, live := m.live + 1 } ∧ Kept b c r w ((((w.setCell ⟨r, j, none⟩ u).setCell ⟨c, m.least * 4, none⟩ t.v)).setCell ⟨b, 3, none⟩ (.int .i64 (m.live + 1)))) := by
    rintro j rfl u rfl
    have a1 := AtF.row hA (q := m.least) false
    have a2 := a1.put (i := m.least) (by omega) ((a1.cl m.least x hx).put0 t)
    have a3 := a2.live (m.live + 1)
    refine ⟨?_, (((Kept.refl b c r w).set (.inr (.inr rfl)) _).set (.inr (.inl rfl)) _).set (.inl rfl) _⟩
    unfold At
    rw [flags_set, can_busy (x := { x with held := t }) hb]
    exact a3
  have hk := hA.cl m.least x hx
  obtain ⟨k0, k1, _, _⟩ := hk
  have HT := Lib.hid (fun i => (hT i))
  obtain ⟨ty, v, ev⟩ := Held.iface hb
  rw [ev] at HQ ⊢
  generalize hp : m.least = p at *
  clear hA hO hx hT hb ev
  go_enter Tryd.func105, Tryd.ntmps105
  go_wp2_with fail
  go_loop [14] (fun iv => ∃ j : Nat, j ≤ (m.cells.length + 63) / 64 ∧ iv = .int .i64 (j : Int) ∧ Hid (∀ i, i < j → rowAt m.flags i = 0)) (fun iv => (m.cells.length + 63) / 64 - (intOf iv).toNat)
  case atStart => exact ⟨0, by omega, rfl, fun i hi => absurd hi (by omega)⟩
  case round =>
    obtain ⟨j, hj, rfl, hz⟩ := hrel
    by_cases hlt : j < (m.cells.length + 63) / 64
    · have j1 : (j : Int) < (((m.cells.length + 63) / 64 : Nat) : Int) := by omega
      have hrow := HR.out j hlt
      rcases HL.out j hlt hz with hj0 | ⟨hn0, hz64, hle, _, hcl⟩
      · rw [hj0] at hrow
        have HZ : Hid (∀ i, i < j + 1 → rowAt m.flags i = 0) := fun i hi => by
          by_cases e : i = j
          · rw [e]; exact hj0
          · exact hz i (by omega)
        clear hz hj0
        go_wp2
        go_round
        case rel => exact ⟨j + 1, by omega, by go_num, HZ⟩
        case measure => simp [intOf]; omega
      · have hRlt := rowAt_lt m.flags j
        have HB := Lib.hid (less_u64 hRlt hn0)
        rw [hcl] at HB
        have HU := Lib.hid (HQ.out j (by omega) _ rfl)
        generalize rowAt m.flags j = R at hrow hn0 hz64 hle hRlt HB
        have hn1 : ((R : Int) == 0) = false := by simp; omega
        have htz := fun w hT => tz_any R hRlt hn0 w hT
        have hpe : (j : Int) * 64 + (Lib.ctz 64 R : Nat) = (p : Int) := by omega
        have hl2 : (p : Int) < (m.cells.length : Int) := by omega
        generalize Lib.ctz 64 R = z at htz hpe hz64
        have HP := Lib.hid hpe
        have hfr := fr j
        clear hz hcl hle hn0 hpe
        go_wp2_with fail
        rw [HB.out]
        refine (htz _ ?_).mono ?_
        · intro i hi
          exact set_other (HT.out i hi) (.inl r0)
        rintro e w1 ⟨rfl, rfl⟩
        clear htz
        go_wp2_with (first | rw [HP.out] | fail)
        refine (handle_any _ _ _).mono ?_
        rintro e w1 ⟨rfl, rfl⟩
        clear k0 k1 hrow h0 h1 h3
        go_wp2
        go_ret2
        exact ⟨rfl, HU.out⟩
    · exfalso
      have hL2 := all_rows m.flags (by rw [show m.flags.length = m.cells.length by simp [M.flags]]; exact fun i hi => hz i (by omega))
      have hL3 : m.least = m.flags.findIdx id := rfl
      rw [hp, hL2, show m.flags.length = m.cells.length by simp [M.flags]] at hL3
      omega
end Go.Proofs.YtibimnibmengpaaDoor
/- What Alloc, AllocWord, Load, Word, Store, Swap, Free, Retire answer and make of memory. Conditions: counts and live cells are below 2 to the 61; generations are between 0 and 16384; the library's table stands. -/
namespace Go.Proofs.YtibimnibmengpaaDoor
open Go.RowKit Go.Op
set_option maxRecDepth 100000

def M.ask (m : M) : M := { m with count := m.count + 1 }
def M.miss (m : M) : M := { m with count := m.count + 1, stale := m.stale + 1 }
def M.put (m : M) (p : Nat) (y : Cl) : M := { m with cells := m.cells.set p y }
def M.at (m : M) (h : Int) : Option (Nat × Cl) := (m.seek h).bind fun p => (m.cells[p]?).map fun x => (p, x)
def M.take (m : M) (t : Held) : M × Int × Int := match m.cells[m.least]? with
  | some x => ({ m with cells := m.cells.set m.least { x with held := t }, live := m.live + 1 }, hand m.least x.gen, 0)
  | none => (m, 0, 3)
def M.alloc (m : M) (t : Held) : M × Int × Int := m.ask.take t
def M.load (m : M) (h : Int) : M × Held × Int := match m.at h with
  | none => (m.miss, .no, 5)
  | some (_, x) => match x.held with
    | .blk d p => (m.ask, .blk d p, 0)
    | _ => (m.ask, .no, 6)
def M.word (m : M) (h : Int) : M × Int × Int := match m.at h with
  | none => (m.miss, 0, 5)
  | some (_, x) => match x.held with
    | .word n => (m.ask, n, 0)
    | _ => (m.ask, 0, 6)
def M.store (m : M) (h n : Int) : M × Int := match m.at h with
  | none => (m.miss, 5)
  | some (p, x) => match x.held with
    | .word _ => (m.ask.put p { x with held := .word n }, 0)
    | _ => (m.ask, 6)
def M.swap (m : M) (h old n : Int) : M × Bool × Int := match m.at h with
  | none => (m.miss, false, 5)
  | some (p, x) => match x.held with
    | .word k => if k = old then (m.ask.put p { x with held := .word n }, true, 0) else (m.ask, false, 0)
    | _ => (m.ask, false, 6)
def M.drop (m : M) (p : Nat) (x : Cl) : M := { m with cells := m.cells.set p x.freed, live := m.live - 1 }
def M.free (m : M) (h : Int) : M × Int := match m.at h with
  | none => (m.miss, 5)
  | some (p, x) => (m.ask.drop p x, 0)
def Cl.retired (x : Cl) (s : Int) : Cl := { x with ret := true, stamp := if x.ret = true ∧ s ≤ x.stamp then x.stamp else s }
def M.retire (m : M) (h s : Int) : M × Int := match m.at h with
  | none => (m.miss, 5)
  | some (p, x) => (m.ask.put p (x.retired s), 0)
def M.reap (m : M) (p below : Int) : M × Bool × Int :=
  if p < 0 ∨ (m.cells.length : Int) ≤ p then (m.ask, false, 10)
  else match m.cells[p.toNat]? with
    | some x => if x.ret = true ∧ x.stamp < below then (m.ask.drop p.toNat x, true, 0) else (m.ask, false, 0)
    | none => (m.ask, false, 0)

theorem at_none {m : M} {h : Int} (hs : m.seek h = none) : m.at h = none := by simp [M.at, hs]
theorem at_some {m : M} {h : Int} {p : Nat} {x : Cl} (hs : m.seek h = some p) (hx : m.cells[p]? = some x) : m.at h = some (p, x) := by simp [M.at, hs, hx]
theorem M.Ok.mono {N N' : Int} {m : M} (h : m.Ok N) (hN : N ≤ N') : m.Ok N' :=
  ⟨h.len, h.gen, ⟨h.cnt.1, Int.le_trans h.cnt.2 hN⟩, ⟨by have := h.liv; omega, by have := h.liv; omega⟩, ⟨h.stl.1, Int.le_trans h.stl.2 hN⟩⟩
theorem M.Ok.ask {N : Int} {m : M} (h : m.Ok N) : m.ask.Ok (N + 1) :=
  ⟨h.len, h.gen, by have := h.cnt; simp only [M.ask]; omega, by have := h.liv; simp only [M.ask]; omega, by have := h.stl; simp only [M.ask]; omega⟩
theorem M.Ok.miss {N : Int} {m : M} (h : m.Ok N) : m.miss.Ok (N + 1) :=
  ⟨h.len, h.gen, by have := h.cnt; simp only [M.miss]; omega, by have := h.liv; simp only [M.miss]; omega, by have := h.stl; simp only [M.miss]; omega⟩

theorem mk90 (x : Value) (w : World) : (Instr.makeInterface 128 x).run Tryd.prog w = .ok (.iface 128 x) w := run_makeInterface w 128 x (by kernel_rfl)

/-- A cell that holds something holds something else: which cells may be taken stays so. -/
theorem At.put0 {w : World} {b c r : Nat} {m : M} (h : At w b c r m) {p : Nat} {x : Cl} (hx : m.cells[p]? = some x) (hb : x.held.busy = true) {t : Held} (ht : t.busy = true) : At (w.setCell ⟨c, p * 4, none⟩ t.v) b c r (m.put p { x with held := t }) := by
  have h1 := AtF.put h (i := p) (by omega) ((h.cl p x hx).put0 t)
  have hf : m.flags.set p false = m.flags := set_val (by have := flags_at hx; rwa [can_busy hb] at this)
  unfold At M.put
  rw [flags_set, can_busy (x := { x with held := t }) ht, hf]
  exact h1

theorem allocword_any (w : World) (b c r : Nat) (m : M) (n : Int) (hA : At w b c r m) (hO : m.Ok 2305843009213693952) (hT : TabAt w) (b0 : b ≠ 0) (r0 : r ≠ 0) :
    Calls Tryd.prog 97 #[.pointer (some ⟨b, 0, none⟩), .int .i64 n] w fun e w' => e = .returned (.tuple #[.int .i64 (m.alloc (.word n)).2.1, .int .i64 (m.alloc (.word n)).2.2]) ∧ At w' b c r (m.alloc (.word n)).1 ∧ Kept b c r w w' := by
  have h2 := hA.head.h2
  have fb := hA.own.fb
  have hc := hO.cnt
  have hA1 : At _ b c r m.ask := AtF.count hA (m.count + 1)
  have hK1 := (Kept.refl b c r w).set (a := ⟨b, 2, none⟩) (.inl rfl) (.int .i64 (m.count + 1))
  have hT1 : TabAt (w.setCell ⟨b, 2, none⟩ (.int .i64 (m.count + 1))) := fun i hi => set_other (hT i hi) (.inl b0)
  have mk := mk90
  have hO1 : m.ask.Ok 4611686018427387904 := hO.ask.mono (by decide)
  generalize hw1 : w.setCell ⟨b, 2, none⟩ (.int .i64 (m.count + 1)) = w1 at hA1 hK1 hT1
  have HW := Lib.hid hw1
  have HT : Hid (Calls Tryd.prog 105 #[.pointer (some ⟨b, 0, none⟩), .iface 128 (.int .i64 n)] w1 fun e w' => e = .returned (.tuple #[.int .i64 (m.alloc (.word n)).2.1, .int .i64 (m.alloc (.word n)).2.2]) ∧ At w' b c r (m.alloc (.word n)).1 ∧ Kept b c r w1 w') := by
    unfold M.alloc M.take
    cases hx : m.ask.cells[m.ask.least]? with
    | some x => exact take_yes w1 b c r m.ask (.word n) x hA1 hO1 hT1 r0 hx rfl
    | none =>
      have hle : m.ask.least ≤ m.ask.flags.length := List.findIdx_le_length
      have hge := List.getElem?_eq_none_iff.1 hx
      have hfl : m.ask.flags.length = m.ask.cells.length := by simp [M.flags]
      refine (take_no w1 b c r m.ask _ hA1 hO1 (by omega)).mono ?_
      rintro e w2 ⟨rfl, rfl⟩
      exact ⟨rfl, hA1, Kept.refl b c r w1⟩
  clear hA hO hT hA1 hO1 hT1 hw1
  go_enter Tryd.func97, Tryd.ntmps97
  go_wp2_with fail
  rw [HW.out]
  refine HT.out.mono ?_
  rintro e w2 ⟨rfl, h1, h2⟩
  have HE := Lib.hid (⟨h1, hK1.trans h2⟩ : _ ∧ _)
  clear h1 h2
  go_wp2
  go_ret2
  exact ⟨rfl, HE.out⟩
theorem allocblk_any (w : World) (b c r : Nat) (m : M) (d : Dat) (pl : Pl) (hA : At w b c r m) (hO : m.Ok 2305843009213693952) (hT : TabAt w) (b0 : b ≠ 0) (r0 : r ≠ 0) :
    Calls Tryd.prog 99 #[.pointer (some ⟨b, 0, none⟩), .iface d.ty (d.v pl)] w fun e w' => e = .returned (.tuple #[.int .i64 (m.alloc (.blk d pl)).2.1, .int .i64 (m.alloc (.blk d pl)).2.2]) ∧ At w' b c r (m.alloc (.blk d pl)).1 ∧ Kept b c r w w' := by
  have h2 := hA.head.h2
  have fb := hA.own.fb
  have hc := hO.cnt
  have hA1 : At _ b c r m.ask := AtF.count hA (m.count + 1)
  have hK1 := (Kept.refl b c r w).set (a := ⟨b, 2, none⟩) (.inl rfl) (.int .i64 (m.count + 1))
  have hT1 : TabAt (w.setCell ⟨b, 2, none⟩ (.int .i64 (m.count + 1))) := fun i hi => set_other (hT i hi) (.inl b0)
  have hO1 : m.ask.Ok 4611686018427387904 := hO.ask.mono (by decide)
  generalize hw1 : w.setCell ⟨b, 2, none⟩ (.int .i64 (m.count + 1)) = w1 at hA1 hK1 hT1
  have HW := Lib.hid hw1
  have HT : Hid (Calls Tryd.prog 105 #[.pointer (some ⟨b, 0, none⟩), .iface d.ty (d.v pl)] w1 fun e w' => e = .returned (.tuple #[.int .i64 (m.alloc (.blk d pl)).2.1, .int .i64 (m.alloc (.blk d pl)).2.2]) ∧ At w' b c r (m.alloc (.blk d pl)).1 ∧ Kept b c r w1 w') := by
    unfold M.alloc M.take
    cases hx : m.ask.cells[m.ask.least]? with
    | some x => exact take_yes w1 b c r m.ask (.blk d pl) x hA1 hO1 hT1 r0 hx rfl
    | none =>
      have hle : m.ask.least ≤ m.ask.flags.length := List.findIdx_le_length
      have hge := List.getElem?_eq_none_iff.1 hx
      have hfl : m.ask.flags.length = m.ask.cells.length := by simp [M.flags]
      refine (take_no w1 b c r m.ask _ hA1 hO1 (by omega)).mono ?_
      rintro e w2 ⟨rfl, rfl⟩
      exact ⟨rfl, hA1, Kept.refl b c r w1⟩
  clear hA hO hT hA1 hO1 hT1 hw1
  go_enter Tryd.func99, Tryd.ntmps99
  go_wp2_with fail
  rw [HW.out]
  refine HT.out.mono ?_
  rintro e w2 ⟨rfl, h1, h2⟩
  have HE := Lib.hid (⟨h1, hK1.trans h2⟩ : _ ∧ _)
  clear h1 h2
  go_wp2
  go_ret2
  exact ⟨rfl, HE.out⟩
theorem load_any (w : World) (b c r : Nat) (m : M) (h : Int) (hA : At w b c r m) (hO : m.Ok 4611686018427387904) :
    Calls Tryd.prog 86 #[.pointer (some ⟨b, 0, none⟩), .int .i64 h] w fun e w' => e = .returned (.tuple #[(m.load h).2.1.v, .int .i64 (m.load h).2.2]) ∧ At w' b c r (m.load h).1 ∧ Kept b c r w w' := by
  have t1 := as69_word
  have t2 := as69_blk
  cases hs : m.seek h with
  | none =>
    have hf := find_no w b c r m h hA hO hs
    have e1 : m.load h = (m.miss, .no, 5) := by simp only [M.load, at_none hs]
    rw [e1]
    clear hA hO hs e1
    go_enter Tryd.func86, Tryd.ntmps86
    go_wp2_with fail
    refine hf.mono ?_
    rintro e w1 ⟨rfl, h1, h2⟩
    have HE := Lib.hid (⟨h1, h2⟩ : _ ∧ _)
    clear h1 h2
    go_wp2
    go_ret2
    exact ⟨rfl, HE.out⟩
  | some p =>
    obtain ⟨_, _, x, hx, hb, _⟩ := M.seek_some hs
    have hf := find_yes w b c r m h p hA hO hs
    cases hh : x.held with
    | no => rw [hh] at hb; cases hb
    | word n =>
      have e1 : m.load h = (m.ask, .no, 6) := by simp only [M.load, at_some hs hx, hh]
      rw [e1]
      clear hA hO hs e1 hb
      go_enter Tryd.func86, Tryd.ntmps86
      go_wp2_with fail
      refine hf.mono ?_
      rintro e w1 ⟨rfl, h1, h2⟩
      have k0 := (h1.cl p x hx).1
      rw [hh] at k0
      simp only [Held.v] at k0
      have HE := Lib.hid (⟨h1, h2⟩ : _ ∧ _)
      clear h1 h2 hx hh
      go_wp2
      go_ret2
      exact ⟨rfl, HE.out⟩
    | blk d pl =>
      have e1 : m.load h = (m.ask, .blk d pl, 0) := by simp only [M.load, at_some hs hx, hh]
      rw [e1]
      clear hA hO hs e1 hb
      go_enter Tryd.func86, Tryd.ntmps86
      go_wp2_with fail
      refine hf.mono ?_
      rintro e w1 ⟨rfl, h1, h2⟩
      have k0 := (h1.cl p x hx).1
      rw [hh] at k0
      simp only [Held.v] at k0
      have HE := Lib.hid (⟨h1, h2⟩ : _ ∧ _)
      clear h1 h2 hx hh
      go_wp2
      go_ret2
      exact ⟨rfl, HE.out⟩
end Go.Proofs.YtibimnibmengpaaDoor
/- What Word, Store, Swap, Free, Retire, Reap answer and make of memory. Conditions: counts and live cells are below 2 to the 62; generations are between 0 and 16384; only what holds something is retired. -/
namespace Go.Proofs.YtibimnibmengpaaDoor
open Go.RowKit Go.Op
set_option maxRecDepth 100000

theorem word_any (w : World) (b c r : Nat) (m : M) (h : Int) (hA : At w b c r m) (hO : m.Ok 2305843009213693952) :
    Calls Tryd.prog 65 #[.pointer (some ⟨b, 0, none⟩), .int .i64 h] w fun e w' => e = .returned (.tuple #[.int .i64 (m.word h).2.1, .int .i64 (m.word h).2.2]) ∧ At w' b c r (m.word h).1 ∧ Kept b c r w w' := by
  have hO2 : m.Ok 4611686018427387904 := hO.mono (by decide)
  cases hs : m.seek h with
  | none =>
    have hf := fword_no w b c r m h hA hO2 hs
    have e1 : m.word h = (m.miss, 0, 5) := by simp only [M.word, at_none hs]
    rw [e1]
    clear hA hO hO2 hs e1
    go_enter Tryd.func65, Tryd.ntmps65
    go_wp2_with fail
    refine hf.mono ?_
    rintro e w1 ⟨rfl, h1, h2⟩
    have HE := Lib.hid (⟨h1, h2⟩ : _ ∧ _)
    clear h1 h2
    go_wp2
    go_ret2
    exact ⟨rfl, HE.out⟩
  | some p =>
    obtain ⟨_, _, x, hx, hb, _⟩ := M.seek_some hs
    cases hh : x.held with
    | no => rw [hh] at hb; cases hb
    | word n =>
      have hf := fword_word w b c r m h p x n hA hO2 hs hx hh
      have e1 : m.word h = (m.ask, n, 0) := by simp only [M.word, at_some hs hx, hh]
      rw [e1]
      clear hA hO hO2 hs e1 hb hh hx
      go_enter Tryd.func65, Tryd.ntmps65
      go_wp2_with fail
      refine hf.mono ?_
      rintro e w1 ⟨rfl, h1, h2⟩
      have HE := Lib.hid (⟨h1, h2⟩ : _ ∧ _)
      clear h1 h2
      go_wp2
      go_ret2
      exact ⟨rfl, HE.out⟩
    | blk d pl =>
      have hf := fword_blk w b c r m h p x d pl hA hO2 hs hx hh
      have e1 : m.word h = (m.ask, 0, 6) := by simp only [M.word, at_some hs hx, hh]
      rw [e1]
      clear hA hO hO2 hs e1 hb hh hx
      go_enter Tryd.func65, Tryd.ntmps65
      go_wp2_with fail
      refine hf.mono ?_
      rintro e w1 ⟨rfl, h1, h2⟩
      have HE := Lib.hid (⟨h1, h2⟩ : _ ∧ _)
      clear h1 h2
      go_wp2
      go_ret2
      exact ⟨rfl, HE.out⟩

theorem free_any (w : World) (b c r : Nat) (m : M) (h : Int) (hA : At w b c r m) (hO : m.Ok 2305843009213693952) :
    Calls Tryd.prog 106 #[.pointer (some ⟨b, 0, none⟩), .int .i64 h] w fun e w' => e = .returned (.int .i64 (m.free h).2) ∧ At w' b c r (m.free h).1 ∧ Kept b c r w w' := by
  have hO2 : m.Ok 4611686018427387904 := hO.mono (by decide)
  cases hs : m.seek h with
  | none =>
    have hf := find_no w b c r m h hA hO2 hs
    have e1 : m.free h = (m.miss, 5) := by simp only [M.free, at_none hs]
    rw [e1]
    clear hA hO hO2 hs e1
    go_enter Tryd.func106, Tryd.ntmps106
    go_wp2_with fail
    refine hf.mono ?_
    rintro e w1 ⟨rfl, h1, h2⟩
    have HE := Lib.hid (⟨h1, h2⟩ : _ ∧ _)
    clear h1 h2
    go_wp2
    go_ret
    exact ⟨rfl, HE.out⟩
  | some p =>
    obtain ⟨hi, hp, x, hx, hb, _⟩ := M.seek_some hs
    have hf := find_yes w b c r m h p hA hO2 hs
    have e1 : m.free h = (m.ask.drop p x, 0) := by simp only [M.free, at_some hs hx]
    have hd := fun w1 (h1 : At w1 b c r m.ask) => drop_any w1 b c r m.ask p x h1 (hO.ask.mono (by decide)) hx hb
    have hpl := fun w => place_any h w
    have e2 : placeOf h = p := by simp only [placeOf, hi, if_true]; exact hp.symm
    rw [e2] at hpl
    rw [e1]
    have HD := Lib.hid hd
    clear hA hO hO2 hs e1 hb hx hp hd
    go_enter Tryd.func106, Tryd.ntmps106
    go_wp2_with fail
    refine hf.mono ?_
    rintro e w1 ⟨rfl, h1, h2⟩
    have hd1 := HD.out w1 h1
    clear h1
    go_wp2_with fail
    refine (hpl _).mono ?_
    rintro e w2 ⟨rfl, rfl⟩
    go_wp2_with fail
    refine hd1.mono ?_
    rintro e w3 ⟨rfl, h3, h4⟩
    have HE := Lib.hid (⟨h3, h2.trans h4⟩ : _ ∧ _)
    clear h2 h3 h4
    go_wp2
    go_ret
    exact ⟨rfl, HE.out⟩

end Go.Proofs.YtibimnibmengpaaDoor
/- What Reap and New answer and make of memory. Conditions: counts and live cells are below 2 to the 61; generations are between 0 and 16384; only what holds something is retired; New's number is at most 65535, or any other. -/
namespace Go.Proofs.YtibimnibmengpaaDoor
open Go.RowKit Go.Op
set_option maxRecDepth 100000

/-- Memory, all of whose cells are free. -/
def M.new (n : Nat) : M := ⟨List.replicate n ⟨.no, 0, false, 0⟩, 0, 0, 0⟩
theorem new_bad (n : Int) (hn : n < 1 ∨ 65535 < n) (w : World) : Calls Tryd.prog 38 #[.int .i64 n] w fun e w' => e = .returned (.tuple #[.pointer none, .int .i64 10]) ∧ w = w' := by
  rcases hn with hn | hn
  · go_enter Tryd.func38, Tryd.ntmps38
    go_wp2
    go_ret2
    exact ⟨rfl, rfl⟩
  · have h1 : ¬ n < 1 := by omega
    go_enter Tryd.func38, Tryd.ntmps38
    go_wp2
    go_ret2
    exact ⟨rfl, rfl⟩
theorem info76 : (Tryd.prog.info? 132).map (fun i => (i.zero, i.size, i.bytes)) = some (some (.agg #[.nilIface, .int .i64 0, .bool false, .int .i64 0]), 4, 40) := by kernel_rfl
theorem info77 : (Tryd.prog.info? 133).map (fun i => (i.zero, i.size, i.bytes)) = some (some (.int .u64 0), 1, 8) := by kernel_rfl
/-- The cells and the rows of a new memory. -/
def cellsObj (n : Nat) : Obj := .cells (madeCells (Value.agg #[.nilIface, .int .i64 0, .bool false, .int .i64 0]).cells (n * 4)) 132
def rowsObj (n : Nat) : Obj := .cells (madeCells (Value.int .u64 0).cells ((n + 63) / 64 * 1)) 133
theorem make_cells (w : World) (n : Nat) (hn : n ≤ 65535) : (Instr.makeSlice 88 (.int .i64 (n : Int)) (.int .i64 (n : Int))).run Tryd.prog w = .ok (.slice (some ⟨w.heap.size, 0, none⟩) n n) (w.alloc (cellsObj n)) := by
  obtain ⟨i0, hi, hz0, hz1, hz2⟩ := info_parts info76
  have hr := run_make (P := Tryd.prog) w 88 132 i0 _ Tryd.underlying88 hi hz0 .i64 .i64 (n : Int) (n : Int) (by omega) (by omega) (by rw [hz2]; omega) (by omega)
  simp only [Int.toNat_natCast, hz1] at hr
  exact hr
theorem make_rows (w : World) (n : Nat) (hn : n ≤ 65535) : (Instr.makeSlice 89 (.int .i64 (((n + 63) / 64 : Nat) : Int)) (.int .i64 (((n + 63) / 64 : Nat) : Int))).run Tryd.prog w = .ok (.slice (some ⟨w.heap.size, 0, none⟩) ((n + 63) / 64) ((n + 63) / 64)) (w.alloc (rowsObj n)) := by
  obtain ⟨i0, hi, hz0, hz1, hz2⟩ := info_parts info77
  have hr := run_make (P := Tryd.prog) w 89 133 i0 _ Tryd.underlying89 hi hz0 .i64 .i64 (((n + 63) / 64 : Nat) : Int) (((n + 63) / 64 : Nat) : Int) (by omega) (by omega) (by rw [hz2]; omega) (by omega)
  simp only [Int.toNat_natCast, hz1] at hr
  exact hr
/-- Which cells may be taken once the first i are opened. -/
def opened (n i : Nat) : List Bool := (List.range n).map fun k => decide (k < i)
theorem opened_set (n i : Nat) : (opened n i).set i true = opened n (i + 1) := by
  apply List.ext_getElem?
  intro k
  simp only [opened, List.getElem?_set, List.getElem?_map, List.length_map, List.length_range]
  by_cases hk : k < n
  · rw [List.getElem?_range hk]
    by_cases e : i = k
    · subst e
      rw [if_pos rfl, if_pos hk]; simp
    · rw [if_neg e]
      simp only [Option.map_some, Option.some.injEq, decide_eq_decide]
      omega
  · rw [List.getElem?_eq_none (by simpa using hk)]
    by_cases e : i = k
    · subst e
      rw [if_pos rfl, if_neg hk]; rfl
    · rw [if_neg e]; rfl
theorem opened_all (n : Nat) : opened n n = (M.new n).flags := by
  apply List.ext_getElem?
  intro k
  simp only [opened, M.flags, M.new, List.getElem?_map, List.getElem?_replicate]
  by_cases hk : k < n
  · rw [List.getElem?_range hk, if_pos hk]
    simp [hk, Cl.can, Held.busy]
  · rw [List.getElem?_eq_none (by simpa using hk), if_neg hk]; rfl
theorem opened_row (n j : Nat) : rowAt (opened n 0) j = 0 := by
  have h : ∀ l : List Bool, (∀ x ∈ l, x = false) → bitsOf l = 0 := by
    intro l
    induction l with
    | nil => intro _; rfl
    | cons x t ih => intro hx; rw [bitsOf, ih (fun y hy => hx y (List.mem_cons_of_mem _ hy)), hx x (List.mem_cons_self ..)]; rfl
  refine h _ fun x hx => ?_
  have := List.mem_of_mem_drop (List.mem_of_mem_take hx)
  simp [opened] at this
  exact this.2
theorem cells_new (w : World) (n : Nat) : Cells (w.alloc (cellsObj n)) w.heap.size (M.new n).cells ∧ ∀ i, (w.alloc (cellsObj n)).frozen? ⟨w.heap.size, i, none⟩ = false := by
  refine ⟨fun i x hx => ?_, fun i => World.frozen?_alloc_at _ 132 _ i rfl⟩
  have hi : i < n := by simpa [M.new] using (List.getElem?_eq_some_iff.1 hx).1
  have hx2 : x = ⟨.no, 0, false, 0⟩ := by
    simp only [M.new, List.getElem?_replicate, if_pos hi, Option.some.injEq] at hx
    exact hx.symm
  subst hx2
  have hc : ∀ k, k < 4 → (w.alloc (cellsObj n)).cell? ⟨w.heap.size, i * 4 + k, none⟩ = some ((Value.agg #[.nilIface, .int .i64 0, .bool false, .int .i64 0]).cells[k]!) := by
    intro k hk
    unfold cellsObj
    rw [World.cell?_alloc_new]
    have e : (Value.agg #[.nilIface, .int .i64 0, .bool false, .int .i64 0]).cells.size = 4 := rfl
    simp only [madeCells, Array.getElem?_map, Array.getElem?_range, show i * 4 + k < n * 4 by omega, if_true, Option.map_some, e, show (i * 4 + k) % 4 = k by omega]
  exact ⟨hc 0 (by omega), hc 1 (by omega), hc 2 (by omega), hc 3 (by omega)⟩
theorem rows_new (w : World) (n : Nat) : Rows (w.alloc (rowsObj n)) w.heap.size n (opened n 0) ∧ ∀ i, (w.alloc (rowsObj n)).frozen? ⟨w.heap.size, i, none⟩ = false := by
  refine ⟨fun j hj => ?_, fun i => World.frozen?_alloc_at _ 133 _ i rfl⟩
  rw [opened_row]
  unfold rowsObj
  rw [World.cell?_alloc_new]
  have e : (Value.int .u64 0).cells = #[Value.int .u64 0] := rfl
  simp only [madeCells, Array.getElem?_map, Array.getElem?_range, show j < (n + 63) / 64 * 1 by omega, if_true, Option.map_some, e]
  simp [Nat.mod_one]
/-- The three blocks of a new memory, once they are there. -/
theorem new_start (w W : World) (b c r n : Nat) (h1 : b < W.heap.size) (h2 : c < W.heap.size) (h3 : r < W.heap.size) (h4 : b ≠ c) (h5 : b ≠ r) (h6 : c ≠ r)
    (hb : ∃ u : World, u.heap.size = b ∧ Below (b + 1) (u.alloc (.cells #[.slice (some ⟨c, 0, none⟩) n n, .slice (some ⟨r, 0, none⟩) ((n + 63) / 64) ((n + 63) / 64), .int .i64 0, .int .i64 0, .int .i64 0] 91)) W)
    (hc : ∃ u : World, u.heap.size = c ∧ Below (c + 1) (u.alloc (cellsObj n)) W) (hr : ∃ u : World, u.heap.size = r ∧ Below (r + 1) (u.alloc (rowsObj n)) W) (hB : Below w.heap.size w W) :
    Hid (AtF W b c r (M.new n) (opened n 0) ∧ Below w.heap.size w W) := by
  obtain ⟨u1, rfl, k1⟩ := hb
  obtain ⟨u2, rfl, k2⟩ := hc
  obtain ⟨u3, rfl, k3⟩ := hr
  obtain ⟨c1, c2⟩ := cells_new u2 n
  obtain ⟨r1, r2⟩ := rows_new u3 n
  have hl : (M.new n).cells.length = n := by simp [M.new]
  have hd : ∀ i v, (#[Value.slice (some ⟨u2.heap.size, 0, none⟩) n n, .slice (some ⟨u3.heap.size, 0, none⟩) ((n + 63) / 64) ((n + 63) / 64), .int .i64 0, .int .i64 0, .int .i64 0] : Array Value)[i]? = some v → W.cell? ⟨u1.heap.size, i, none⟩ = some v := fun i v hv => by
    rw [k1.cell (p := ⟨u1.heap.size, i, none⟩) (Nat.lt_succ_self _), World.cell?_alloc_new]
    exact hv
  refine ⟨⟨⟨h1, h2, h3, h4, h5, h6, fun i => ?_, fun i => ?_, fun i => ?_⟩, ?_, fun i x hx => ?_, fun j hj => ?_⟩, hB⟩
  · rw [k1.frozen (p := ⟨u1.heap.size, i, none⟩) (Nat.lt_succ_self _)]; exact World.frozen?_alloc_at _ 91 _ i rfl
  · rw [k2.frozen (p := ⟨u2.heap.size, i, none⟩) (Nat.lt_succ_self _)]; exact c2 i
  · rw [k3.frozen (p := ⟨u3.heap.size, i, none⟩) (Nat.lt_succ_self _)]; exact r2 i
  · rw [hl]
    exact ⟨hd 0 _ rfl, hd 1 _ rfl, hd 2 _ rfl, hd 3 _ rfl, hd 4 _ rfl⟩
  · have := c1 i x hx
    unfold CAt at this ⊢
    rw [k2.cell (p := ⟨u2.heap.size, i * 4, none⟩) (Nat.lt_succ_self _), k2.cell (p := ⟨u2.heap.size, i * 4 + 1, none⟩) (Nat.lt_succ_self _), k2.cell (p := ⟨u2.heap.size, i * 4 + 2, none⟩) (Nat.lt_succ_self _), k2.cell (p := ⟨u2.heap.size, i * 4 + 3, none⟩) (Nat.lt_succ_self _)]
    exact this
  · rw [k3.cell (p := ⟨u3.heap.size, j, none⟩) (Nat.lt_succ_self _)]
    rw [hl] at hj
    exact r1 j hj

/-- What New leaves. -/
def Made (w : World) (n : Nat) (e : Ending) (w' : World) : Prop := ∃ b c r, e = .returned (.tuple #[.pointer (some ⟨b, 0, none⟩), .int .i64 0]) ∧ At w' b c r (M.new n) ∧ Below w.heap.size w w' ∧ w.heap.size ≤ b ∧ w.heap.size ≤ c ∧ w.heap.size ≤ r
set_option maxHeartbeats 1000000 in
theorem new_any (n : Nat) (h1 : 1 ≤ n) (hn : n ≤ 65535) (w : World) : Calls Tryd.prog 38 #[.int .i64 (n : Int)] w fun e w' => Made w n e w' := by
  have g1 := fun w => make_cells w n hn
  have g2 := fun w => make_rows w n hn
  have n1 : ¬ (n : Int) < 1 := by omega
  have n2 : ¬ 65535 < (n : Int) := by omega
  have n3 : (((n + 63) / 64 : Nat) : Int) = ((n : Int) + 63) / 64 := by omega
  rw [n3] at g2
  clear n3
  go_enter Tryd.func38, Tryd.ntmps38
  go_wp2_with fail
  go_region
  · clear g1 g2
    have B0 := Below.refl w.heap.size w
    have B1 := B0.alloc (Nat.le_refl _) (cellsObj n)
    obtain ⟨W, b, c, r, eW, eb, ec, er, hS, hb0, hc0, hr0⟩ : ∃ W b c r, W = (((w.alloc (cellsObj n)).alloc (rowsObj n)).alloc (Obj.cells #[Value.slice (some { block := w.heap.size, off := 0 }) n n, Value.slice (some { block := w.heap.size + 1, off := 0 }) ((n + 63) / 64) ((n + 63) / 64), Value.int IntKind.i64 0, Value.int IntKind.i64 0, Value.int IntKind.i64 0] 91)).drew ∧ b = w.heap.size + 1 + 1 ∧ c = w.heap.size ∧ r = w.heap.size + 1 ∧ Hid (AtF W b c r (M.new n) (opened n 0) ∧ Below w.heap.size w W) ∧ w.heap.size ≤ b ∧ w.heap.size ≤ c ∧ w.heap.size ≤ r :=
      ⟨_, _, _, _, rfl, rfl, rfl, rfl, new_start w _ _ _ _ n (by simp) (by simp; omega) (by simp) (by omega) (by omega) (by omega)
        ⟨(w.alloc (cellsObj n)).alloc (rowsObj n), by simp, (Below.refl _ _).drew⟩
        ⟨w, rfl, (((Below.refl _ _).alloc (by simp) _).alloc (by simp) _).drew⟩
        ⟨w.alloc (cellsObj n), by simp, ((Below.refl _ _).alloc (by simp) _).drew⟩
        (((B1.alloc (by simp) _).alloc (by simp; omega) _).drew), by omega, by omega, by omega⟩
    rw [← eW, ← eb, ← er, ← ec]
    clear eW eb er ec
    have HB0 := Lib.hid (⟨hb0, hc0, hr0⟩ : _ ∧ _ ∧ _)
    clear hb0 hc0 hr0
    go_wp2_with fail
    go_loopw [21] (fun iv wr => ∃ i : Nat, i ≤ n ∧ iv = .int .i64 (i : Int) ∧ Hid (AtF wr b c r (M.new n) (opened n i) ∧ Below w.heap.size w wr)) (fun iv _ => n - (intOf iv).toNat)
    case atStart => exact ⟨0, by omega, rfl, hS⟩
    case round =>
      obtain ⟨i, hi, rfl, hR⟩ := hrel
      clear hS
      by_cases hlt : i < n
      · have i1 : (i : Int) < (n : Int) := by omega
        have ho := open_any wr b c r (M.new n) (opened n i) i hR.out.1 (by simp [opened, M.new]) (by simpa [M.new] using hlt) (by simpa [M.new] using hn)
        rw [opened_set] at ho
        go_wp2_with fail
        refine ho.mono ?_
        rintro e w2 ⟨rfl, h3, h4⟩
        have HR2 : Hid (AtF w2 b c r (M.new n) (opened n (i + 1)) ∧ Below w.heap.size w w2) := ⟨h3, hR.out.2.trans (h4.below hR.out.2.size HB0.out.1 HB0.out.2.1 HB0.out.2.2)⟩
        clear h3 h4 hR
        go_wp2_with fail
        go_roundw
        case rel => exact ⟨i + 1, by omega, by go_num, HR2⟩
        case measure => simp [intOf]; omega
      · have i1 : ¬ (i : Int) < (n : Int) := by omega
        obtain rfl : i = n := by omega
        have HE : Hid (At wr b c r (M.new i) ∧ Below w.heap.size w wr) := by
          refine ⟨?_, hR.out.2⟩
          unfold At
          rw [← opened_all]
          exact hR.out.1
        clear hR
        go_wp2
        go_ret2
        exact ⟨b, c, r, rfl, HE.out.1, HE.out.2, HB0.out.1, HB0.out.2.1, HB0.out.2.2⟩
  · clear g1 g2
    have B0 := Below.refl w.heap.size w
    have B1 := B0.alloc (Nat.le_refl _) (rowsObj n)
    obtain ⟨W, b, c, r, eW, eb, ec, er, hS, hb0, hc0, hr0⟩ : ∃ W b c r, W = (((w.alloc (rowsObj n)).alloc (cellsObj n)).alloc (Obj.cells #[Value.slice (some { block := w.heap.size + 1, off := 0 }) n n, Value.slice (some { block := w.heap.size, off := 0 }) ((n + 63) / 64) ((n + 63) / 64), Value.int IntKind.i64 0, Value.int IntKind.i64 0, Value.int IntKind.i64 0] 91)).drew ∧ b = w.heap.size + 1 + 1 ∧ c = w.heap.size + 1 ∧ r = w.heap.size ∧ Hid (AtF W b c r (M.new n) (opened n 0) ∧ Below w.heap.size w W) ∧ w.heap.size ≤ b ∧ w.heap.size ≤ c ∧ w.heap.size ≤ r :=
      ⟨_, _, _, _, rfl, rfl, rfl, rfl, new_start w _ _ _ _ n (by simp) (by simp) (by simp; omega) (by omega) (by omega) (by omega)
        ⟨(w.alloc (rowsObj n)).alloc (cellsObj n), by simp, (Below.refl _ _).drew⟩
        ⟨w.alloc (rowsObj n), by simp, ((Below.refl _ _).alloc (by simp) _).drew⟩
        ⟨w, rfl, (((Below.refl _ _).alloc (by simp) _).alloc (by simp) _).drew⟩
        (((B1.alloc (by simp) _).alloc (by simp; omega) _).drew), by omega, by omega, by omega⟩
    rw [← eW, ← eb, ← ec, ← er]
    clear eW eb er ec
    have HB0 := Lib.hid (⟨hb0, hc0, hr0⟩ : _ ∧ _ ∧ _)
    clear hb0 hc0 hr0
    go_wp2_with fail
    go_loopw [21] (fun iv wr => ∃ i : Nat, i ≤ n ∧ iv = .int .i64 (i : Int) ∧ Hid (AtF wr b c r (M.new n) (opened n i) ∧ Below w.heap.size w wr)) (fun iv _ => n - (intOf iv).toNat)
    case atStart => exact ⟨0, by omega, rfl, hS⟩
    case round =>
      obtain ⟨i, hi, rfl, hR⟩ := hrel
      clear hS
      by_cases hlt : i < n
      · have i1 : (i : Int) < (n : Int) := by omega
        have ho := open_any wr b c r (M.new n) (opened n i) i hR.out.1 (by simp [opened, M.new]) (by simpa [M.new] using hlt) (by simpa [M.new] using hn)
        rw [opened_set] at ho
        go_wp2_with fail
        refine ho.mono ?_
        rintro e w2 ⟨rfl, h3, h4⟩
        have HR2 : Hid (AtF w2 b c r (M.new n) (opened n (i + 1)) ∧ Below w.heap.size w w2) := ⟨h3, hR.out.2.trans (h4.below hR.out.2.size HB0.out.1 HB0.out.2.1 HB0.out.2.2)⟩
        clear h3 h4 hR
        go_wp2_with fail
        go_roundw
        case rel => exact ⟨i + 1, by omega, by go_num, HR2⟩
        case measure => simp [intOf]; omega
      · have i1 : ¬ (i : Int) < (n : Int) := by omega
        obtain rfl : i = n := by omega
        have HE : Hid (At wr b c r (M.new i) ∧ Below w.heap.size w wr) := by
          refine ⟨?_, hR.out.2⟩
          unfold At
          rw [← opened_all]
          exact hR.out.1
        clear hR
        go_wp2
        go_ret2
        exact ⟨b, c, r, rfl, HE.out.1, HE.out.2, HB0.out.1, HB0.out.2.1, HB0.out.2.2⟩
end Go.Proofs.YtibimnibmengpaaDoor
/- Whatever is asked of it, memory keeps its generations in their bounds; each call counts one; that the law is awake. Condition: the library's table stands. -/
namespace Go.Proofs.YtibimnibmengpaaDoor
open Go.RowKit Go.Op
set_option maxRecDepth 100000

def Cl.fine (x : Cl) : Prop := 0 ≤ x.gen ∧ x.gen ≤ 16384 ∧ (x.ret = true → x.held.busy = true) ∧ (x.held.busy = true → x.gen ≤ 16383)
theorem fine_set {L : List Cl} (h : ∀ (i : Nat) (x : Cl), L[i]? = some x → x.fine) {p : Nat} {y : Cl} (hy : y.fine) : ∀ (i : Nat) (x : Cl), (L.set p y)[i]? = some x → x.fine := by
  intro i x hx
  rw [List.getElem?_set] at hx
  split at hx
  · split at hx
    · cases hx; exact hy
    · cases hx
  · exact h i x hx
theorem least_can {m : M} {x : Cl} (hx : m.cells[m.least]? = some x) : x.can = true := by
  have h1 := flags_at hx
  have h2 : m.flags.findIdx id < m.flags.length := by
    have := (List.getElem?_eq_some_iff.1 h1).1
    exact this
  have h3 := List.findIdx_getElem (p := id) (xs := m.flags) (w := h2)
  have h4 : m.flags[m.flags.findIdx id] = x.can := (List.getElem?_eq_some_iff.1 h1).2
  rw [h4] at h3
  exact h3
theorem can_is {x : Cl} (h : x.can = true) : x.held.busy = false ∧ x.gen ≤ 16383 := by
  unfold Cl.can at h
  rw [Bool.and_eq_true, Bool.not_eq_true', decide_eq_true_eq] at h
  exact h
theorem M.Ok.put {N : Int} {m : M} (h : m.Ok N) {p : Nat} {y : Cl} (hy : y.fine) : (m.put p y).Ok N :=
  ⟨by show (m.cells.set p y).length ≤ _; rw [List.length_set]; exact h.len, fine_set h.gen hy, h.cnt, h.liv, h.stl⟩
theorem M.Ok.drop {N : Int} {m : M} (h : m.ask.Ok N) {p : Nat} {x : Cl} (hx : m.cells[p]? = some x) (hb : x.held.busy = true) (hl : -N ≤ m.live - 1) : (m.ask.drop p x).Ok N := by
  obtain ⟨h1, _, _, h4⟩ := h.gen p x hx
  have := h4 hb
  have hv := h.liv
  simp only [M.ask] at hv
  exact ⟨by show (m.cells.set p x.freed).length ≤ _; rw [List.length_set]; exact h.len, fine_set h.gen ⟨by simp only [Cl.freed]; omega, by simp only [Cl.freed]; omega, fun e => (by cases e), fun e => (by cases e)⟩, h.cnt, ⟨hl, by simp only [M.drop, M.ask]; omega⟩, h.stl⟩
theorem M.Ok.alloc {N : Int} {m : M} (h : m.Ok N) {t : Held} : (m.alloc t).1.Ok (N + 1) := by
  unfold M.alloc M.take
  have ha := h.ask
  split
  · rename_i x hx
    obtain ⟨_, hg⟩ := can_is (least_can hx)
    obtain ⟨g1, g2, _, _⟩ := ha.gen _ x hx
    have hv := h.liv
    have hr : x.ret = false := by
      cases hr : x.ret
      · rfl
      · have := (ha.gen _ x hx).2.2.1 hr
        rw [(can_is (least_can hx)).1] at this
        cases this
    exact ⟨by show (m.ask.cells.set _ _).length ≤ _; rw [List.length_set]; exact ha.len, fine_set ha.gen ⟨g1, g2, fun e => (by rw [hr] at e; cases e), fun _ => hg⟩, ha.cnt, by simp only [M.ask]; omega, ha.stl⟩
  · exact ha
theorem at_is {m : M} {h : Int} {p : Nat} {x : Cl} (ha : m.at h = some (p, x)) : m.seek h = some p ∧ m.cells[p]? = some x ∧ x.held.busy = true := by
  unfold M.at at ha
  cases hs : m.seek h with
  | none => rw [hs] at ha; cases ha
  | some q =>
    obtain ⟨_, _, y, hy, hb, _⟩ := M.seek_some hs
    rw [hs] at ha
    simp only [Option.bind_some, hy, Option.map_some, Option.some.injEq, Prod.mk.injEq] at ha
    obtain ⟨rfl, rfl⟩ := ha
    exact ⟨rfl, hy, hb⟩
theorem M.Ok.load {N : Int} {m : M} (h : m.Ok N) (a : Int) : (m.load a).1.Ok (N + 1) := by
  unfold M.load
  split
  · exact h.miss
  · split
    all_goals exact h.ask
theorem M.Ok.word {N : Int} {m : M} (h : m.Ok N) (a : Int) : (m.word a).1.Ok (N + 1) := by
  unfold M.word
  split
  · exact h.miss
  · split
    · exact h.ask
    · exact h.ask
theorem M.Ok.store {N : Int} {m : M} (h : m.Ok N) (a n : Int) : (m.store a n).1.Ok (N + 1) := by
  unfold M.store
  split
  · exact h.miss
  · rename_i p x ha
    obtain ⟨_, hx, hb⟩ := at_is ha
    obtain ⟨g1, g2, _, g4⟩ := h.gen p x hx
    split
    · exact h.ask.put ⟨g1, g2, fun _ => rfl, fun _ => g4 hb⟩
    · exact h.ask
theorem M.Ok.swap {N : Int} {m : M} (h : m.Ok N) (a o n : Int) : (m.swap a o n).1.Ok (N + 1) := by
  unfold M.swap
  split
  · exact h.miss
  · rename_i p x ha
    obtain ⟨_, hx, hb⟩ := at_is ha
    obtain ⟨g1, g2, _, g4⟩ := h.gen p x hx
    split
    · split
      · exact h.ask.put ⟨g1, g2, fun _ => rfl, fun _ => g4 hb⟩
      · exact h.ask
    · exact h.ask
theorem M.Ok.free {N : Int} {m : M} (h : m.Ok N) (a : Int) : (m.free a).1.Ok (N + 1) := by
  unfold M.free
  split
  · exact h.miss
  · rename_i p x ha
    obtain ⟨_, hx, hb⟩ := at_is ha
    exact h.ask.drop hx hb (by have := h.liv; omega)
theorem M.Ok.retire {N : Int} {m : M} (h : m.Ok N) (a s : Int) : (m.retire a s).1.Ok (N + 1) := by
  unfold M.retire
  split
  · exact h.miss
  · rename_i p x ha
    obtain ⟨_, hx, hb⟩ := at_is ha
    obtain ⟨g1, g2, _, g4⟩ := h.gen p x hx
    exact h.ask.put ⟨g1, g2, fun _ => hb, fun _ => g4 hb⟩
theorem M.Ok.reap {N : Int} {m : M} (h : m.Ok N) (p s : Int) : (m.reap p s).1.Ok (N + 1) := by
  unfold M.reap
  split
  · exact h.ask
  · split
    · rename_i x hx
      split
      · rename_i hr
        exact h.ask.drop hx ((h.gen _ x hx).2.2.1 hr.1) (by have := h.liv; omega)
      · exact h.ask
    · exact h.ask
theorem new_ok (n : Nat) (hn : n ≤ 65535) : (M.new n).Ok 0 := by
  refine ⟨by simpa [M.new] using hn, fun i x hx => ?_, by simp [M.new], by simp [M.new], by simp [M.new]⟩
  simp only [M.new, List.getElem?_replicate] at hx
  split at hx
  · cases hx
    exact ⟨by decide, by decide, fun e => (by cases e), fun e => (by cases e)⟩
  · cases hx

theorem TabAt.lt {w : World} (h : TabAt w) : 0 < w.heap.size := by
  have h0 := h 0 (by decide)
  apply Nat.pos_of_ne_zero
  intro e
  have he : w.heap[0]? = none := by rw [Array.getElem?_eq_none_iff]; omega
  simp [World.cell?, he] at h0
theorem TabAt.below {w w' : World} (h : TabAt w) (hb : Below w.heap.size w w') : TabAt w' := fun j hj => by
  rw [hb.cell (p := ⟨0, j, none⟩) h.lt]; exact h j hj
theorem TabAt.kept {w w' : World} {b c r : Nat} (h : TabAt w) (hk : Kept b c r w w') (hb : b ≠ 0) (hc : c ≠ 0) (hr : r ≠ 0) : TabAt w' := fun j hj => by
  rw [hk.cell (p := ⟨0, j, none⟩) h.lt hb.symm hc.symm hr.symm]; exact h j hj

/-- A memory of the call's own (H: the heap's size when the call began): it stands, at blocks of the call's own; below H all is as it was. -/
structure Has (w0 : World) (b c r : Nat) (N : Int) (w : World) (m : M) : Prop where
  at_ : At w b c r m
  ok : m.Ok N
  below : Below w0.heap.size w0 w
  hb : w0.heap.size ≤ b
  hc : w0.heap.size ≤ c
  hr : w0.heap.size ≤ r
theorem Has.tab {w0 w : World} {b c r : Nat} {N : Int} {m : M} (h : Has w0 b c r N w m) (hT : TabAt w0) : TabAt w ∧ b ≠ 0 ∧ c ≠ 0 ∧ r ≠ 0 := by
  have := hT.lt
  have h1 := h.hb
  have h2 := h.hc
  have h3 := h.hr
  exact ⟨hT.below h.below, by omega, by omega, by omega⟩
theorem Has.step {w0 w w' : World} {b c r : Nat} {N N' : Int} {m m' : M} (h : Has w0 b c r N w m) (ha : At w' b c r m') (hk : Kept b c r w w') (ho : m'.Ok N') : Has w0 b c r N' w' m' :=
  ⟨ha, ho, h.below.trans (hk.below h.below.size h.hb h.hc h.hr), h.hb, h.hc, h.hr⟩
theorem Has.less {w0 w : World} {b c r : Nat} {N N' : Int} {m : M} (h : Has w0 b c r N w m) (hN : N ≤ N') : Has w0 b c r N' w m := ⟨h.at_, h.ok.mono hN, h.below, h.hb, h.hc, h.hr⟩

end Go.Proofs.YtibimnibmengpaaDoor
/- Memory's calls on a memory of the call's own. Conditions: at most 1000000000 asks so far; the library's table stands. -/
namespace Go.Proofs.YtibimnibmengpaaDoor
open Go.RowKit Go.Op
set_option maxRecDepth 100000

theorem Has.later {w0 w w' : World} {b c r : Nat} {N : Int} {m : M} (h : Has w0 b c r N w m) (hb : Below w.heap.size w w') : Has w0 b c r N w' m :=
  ⟨AtF.below h.at_ hb, h.ok, h.below.trans (hb.mono h.below.size), h.hb, h.hc, h.hr⟩
section
variable {w0 w : World} {b c r : Nat} {N : Int} {m : M}
/-- The calls, on a memory of the call's own. -/
theorem Has.allocword (h : Has w0 b c r N w m) (hT : TabAt w0) (hN : N ≤ 1000000000) (n : Int) : Calls Tryd.prog 97 #[.pointer (some ⟨b, 0, none⟩), .int .i64 n] w fun e w' => e = .returned (.tuple #[.int .i64 (m.alloc (.word n)).2.1, .int .i64 (m.alloc (.word n)).2.2]) ∧ Has w0 b c r (N + 1) w' (m.alloc (.word n)).1 ∧ Kept b c r w w' := by
  obtain ⟨t1, t2, t3, t4⟩ := h.tab hT
  refine (allocword_any w b c r m n h.at_ (h.ok.mono (by omega)) t1 t2 t4).mono ?_
  rintro e w1 ⟨rfl, a, k⟩
  exact ⟨rfl, h.step a k h.ok.alloc, k⟩
theorem Has.allocblk (h : Has w0 b c r N w m) (hT : TabAt w0) (hN : N ≤ 1000000000) (d : Dat) (pl : Pl) : Calls Tryd.prog 99 #[.pointer (some ⟨b, 0, none⟩), .iface d.ty (d.v pl)] w fun e w' => e = .returned (.tuple #[.int .i64 (m.alloc (.blk d pl)).2.1, .int .i64 (m.alloc (.blk d pl)).2.2]) ∧ Has w0 b c r (N + 1) w' (m.alloc (.blk d pl)).1 ∧ Kept b c r w w' := by
  obtain ⟨t1, t2, t3, t4⟩ := h.tab hT
  refine (allocblk_any w b c r m d pl h.at_ (h.ok.mono (by omega)) t1 t2 t4).mono ?_
  rintro e w1 ⟨rfl, a, k⟩
  exact ⟨rfl, h.step a k h.ok.alloc, k⟩
theorem Has.load (h : Has w0 b c r N w m) (hN : N ≤ 1000000000) (n : Int) : Calls Tryd.prog 86 #[.pointer (some ⟨b, 0, none⟩), .int .i64 n] w fun e w' => e = .returned (.tuple #[(m.load n).2.1.v, .int .i64 (m.load n).2.2]) ∧ Has w0 b c r (N + 1) w' (m.load n).1 ∧ Kept b c r w w' := by
  refine (load_any w b c r m n h.at_ (h.ok.mono (by omega))).mono ?_
  rintro e w1 ⟨rfl, a, k⟩
  exact ⟨rfl, h.step a k (h.ok.load n), k⟩
theorem Has.word (h : Has w0 b c r N w m) (hN : N ≤ 1000000000) (n : Int) : Calls Tryd.prog 65 #[.pointer (some ⟨b, 0, none⟩), .int .i64 n] w fun e w' => e = .returned (.tuple #[.int .i64 (m.word n).2.1, .int .i64 (m.word n).2.2]) ∧ Has w0 b c r (N + 1) w' (m.word n).1 ∧ Kept b c r w w' := by
  refine (word_any w b c r m n h.at_ (h.ok.mono (by omega))).mono ?_
  rintro e w1 ⟨rfl, a, k⟩
  exact ⟨rfl, h.step a k (h.ok.word n), k⟩
theorem Has.free (h : Has w0 b c r N w m) (hN : N ≤ 1000000000) (n : Int) : Calls Tryd.prog 106 #[.pointer (some ⟨b, 0, none⟩), .int .i64 n] w fun e w' => e = .returned (.int .i64 (m.free n).2) ∧ Has w0 b c r (N + 1) w' (m.free n).1 ∧ Kept b c r w w' := by
  refine (free_any w b c r m n h.at_ (h.ok.mono (by omega))).mono ?_
  rintro e w1 ⟨rfl, a, k⟩
  exact ⟨rfl, h.step a k (h.ok.free n), k⟩
end
/-- A new memory of the call's own. -/
def News (w0 : World) (n : Nat) (e : Ending) (w' : World) : Prop := ∃ b c r, e = .returned (.tuple #[.pointer (some ⟨b, 0, none⟩), .int .i64 0]) ∧ Has w0 b c r 0 w' (M.new n)
theorem has_new {w0 w : World} (n : Nat) (h1 : 1 ≤ n) (hn : n ≤ 65535) (hb : Below w0.heap.size w0 w) : Calls Tryd.prog 38 #[.int .i64 (n : Int)] w fun e w' => News w0 n e w' := by
  refine (new_any n h1 hn w).mono ?_
  rintro e w1 ⟨b, c, r, rfl, a, b1, h1, h2, h3⟩
  have := hb.size
  exact ⟨b, c, r, rfl, a, new_ok n hn, hb.trans (b1.mono hb.size), by omega, by omega, by omega⟩

end Go.Proofs.YtibimnibmengpaaDoor
