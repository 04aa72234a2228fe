/- What Handle, Right, Place, Gen of tag and of the reference answer of any numbers of 64 bits. Conditions: the numbers are of 64 bits. -/
import Derived.Test.YteiikkkcjpfapaaDoorMath
import Derived.Test.YteiikkkcjpfapaaDoorChecked
import Derived.WalkKit
import Derived.Handy
import Derived.Below
import Derived.Lib.Hide
import Derived.Lib.MinMaxS
import Derived.WalkSpells
import Derived.WalkLawsBesides
import Derived.Laws.BitsAllLaws
import Derived.KernelRfl
namespace Go.Proofs.YteiikkkcjpfapaaDoor
open Go.RowKit Go.Op
set_option maxRecDepth 100000

theorem ret_i64 {a b : Int} (h : a = b) : Ending.returned (.int .i64 a) = .returned (.int .i64 b) := by rw [h]
theorem ret_bool {a b : Bool} (h : a = b) : Ending.returned (.bool a) = .returned (.bool b) := by rw [h]

/-- The lowest k bits of a number of 64 bits. -/
theorem and_low (k : Nat) (hk : k ≤ 62) (n m : Int) (hm : (BitVec.ofInt 64 m).toNat = 2 ^ k - 1) : bits .and .i64 n m = n % ((2 ^ k : Nat) : Int) := by
  have key : (BitVec.ofInt 64 n &&& BitVec.ofInt 64 m).toNat = (n % ((2 ^ 64 : Nat) : Int)).toNat % 2 ^ k := by
    rw [BitVec.toNat_and, BitVec.toNat_ofInt, hm, Nat.and_two_pow_sub_one_eq_mod]
  show IntKind.i64.wrap ((BitVec.ofInt 64 n &&& BitVec.ofInt 64 m).toNat : Nat) = _
  have hd : ((2 ^ k : Nat) : Int) ∣ ((2 ^ 64 : Nat) : Int) := Int.ofNat_dvd.mpr (Nat.pow_dvd_pow 2 (by omega))
  have hl : (2 ^ k : Nat) ≤ 2 ^ 62 := Nat.pow_le_pow_right (by decide) hk
  have hp : 0 < (2 ^ k : Nat) := Nat.two_pow_pos k
  have e : (((n % ((2 ^ 64 : Nat) : Int)).toNat % 2 ^ k : Nat) : Int) = n % ((2 ^ k : Nat) : Int) := by
    rw [Int.natCast_emod, Int.toNat_of_nonneg (Int.emod_nonneg _ (by decide)), Int.emod_emod_of_dvd n hd]
  rw [key, e, IntKind.wrap_i64]
  generalize (2 ^ k : Nat) = c at *
  have h1 := Int.emod_nonneg n (b := (c : Int)) (by omega)
  have h2 := Int.emod_lt_of_pos n (b := (c : Int)) (by omega)
  omega
theorem and16 (n : Int) : bits .and .i64 n 65535 = n % 65536 := and_low 16 (by decide) n 65535 (by decide)
theorem and31 (n : Int) : bits .and .i64 n 2147483647 = n % 2147483648 := and_low 31 (by decide) n 2147483647 (by decide)
/-- Numbers side by side. -/
theorem or_side (k : Nat) (a b : Nat) (ha : a % 2 ^ k = 0) (hb : b < 2 ^ k) (hs : a + b < 9223372036854775808) : bits .or .i64 (a : Int) (b : Int) = (a : Int) + (b : Int) := by
  show IntKind.i64.wrap ((BitVec.ofInt 64 (a : Int) ||| BitVec.ofInt 64 (b : Int)).toNat : Int) = _
  rw [BitVec.toNat_or, ofInt_u64 a (by omega), ofInt_u64 b (by omega), nat_join k a b ha hb, IntKind.wrap_i64]
  omega
theorem or16 (g p : Int) (h1 : 0 ≤ g) (h2 : g ≤ 16383) (h3 : 0 ≤ p) (h4 : p ≤ 65534) : bits .or .i64 (g * 65536) (p + 1) = g * 65536 + p + 1 := by
  have := or_side 16 (g.toNat * 65536) (p.toNat + 1) (by omega) (by omega) (by omega)
  rw [show g * 65536 = ((g.toNat * 65536 : Nat) : Int) by omega, show p + 1 = ((p.toNat + 1 : Nat) : Int) by omega, this]
  omega
theorem or31 (v h : Int) (h1 : 0 ≤ v) (h2 : v ≤ 1073741824) (h3 : 0 ≤ h) (h4 : h < 1073741824) : bits .or .i64 (v * 2147483648) h = v * 2147483648 + h := by
  have := or_side 31 (v.toNat * 2147483648) h.toNat (by omega) (by omega) (by omega)
  rw [show v * 2147483648 = ((v.toNat * 2147483648 : Nat) : Int) by omega]
  conv => lhs; rw [show h = (h.toNat : Int) by omega]
  rw [this]
  omega

/-- Is a number a handle? -/
def isH (h : Int) : Bool := decide (0 < h ∧ h < 1073741824 ∧ 0 < h % 65536)
/-- The handle of a place and a generation. -/
def hand (p g : Int) : Int := if 0 ≤ p ∧ p ≤ 65534 ∧ 0 ≤ g ∧ g ≤ 16383 then g * 65536 + p + 1 else 0
def placeOf (h : Int) : Int := if isH h = true then h % 65536 - 1 else -1
def genOf (h : Int) : Int := if isH h = true then h / 65536 else -1

theorem right_any (h : Int) (w : World) : Calls Tryd.prog 84 #[.int .i64 h] w fun e w' => e = .returned (.bool (isH h)) ∧ w = w' := by
  by_cases h1 : 0 < h
  · by_cases h2 : h / 65536 ≤ 16383
    · by_cases h3 : h % 65536 = 0
      · have e : isH h = false := decide_eq_false (by omega)
        have HA := Lib.hid (and16 h)
        rw [h3] at HA
        rw [e]
        go_enter Tryd.func84, Tryd.ntmps84
        go_wp2_with (rw [HA.out])
        go_ret
        exact ⟨rfl, rfl⟩
      · have e : isH h = true := decide_eq_true (by omega)
        have HA := Lib.hid (and16 h)
        rw [e]
        go_enter Tryd.func84, Tryd.ntmps84
        go_wp2_with (rw [HA.out])
        go_ret
        exact ⟨ret_bool (by simp; omega), rfl⟩
    · have e : isH h = false := decide_eq_false (by omega)
      rw [e]
      go_enter Tryd.func84, Tryd.ntmps84
      go_wp2
      go_ret
      exact ⟨rfl, rfl⟩
  · have e : isH h = false := decide_eq_false (by omega)
    rw [e]
    go_enter Tryd.func84, Tryd.ntmps84
    go_wp2
    go_ret
    exact ⟨rfl, rfl⟩
theorem handle_any (p g : Int) (w : World) : Calls Tryd.prog 82 #[.int .i64 p, .int .i64 g] w fun e w' => e = .returned (.int .i64 (hand p g)) ∧ w = w' := by
  by_cases h1 : p < 0
  · have e : hand p g = 0 := if_neg (by omega)
    rw [e]
    go_enter Tryd.func82, Tryd.ntmps82
    go_wp2
    go_ret
    exact ⟨rfl, rfl⟩
  · by_cases h2 : p ≥ 65535
    · have e : hand p g = 0 := if_neg (by omega)
      rw [e]
      go_enter Tryd.func82, Tryd.ntmps82
      go_wp2
      go_ret
      exact ⟨rfl, rfl⟩
    · by_cases h3 : g < 0
      · have e : hand p g = 0 := if_neg (by omega)
        rw [e]
        go_enter Tryd.func82, Tryd.ntmps82
        go_wp2
        go_ret
        exact ⟨rfl, rfl⟩
      · by_cases h4 : 16383 < g
        · have e : hand p g = 0 := if_neg (by omega)
          rw [e]
          go_enter Tryd.func82, Tryd.ntmps82
          go_wp2
          go_ret
          exact ⟨rfl, rfl⟩
        · have e : hand p g = g * 65536 + p + 1 := if_pos (by omega)
          have HO := Lib.hid (or16 g p (by omega) (by omega) (by omega) (by omega))
          rw [e]
          go_enter Tryd.func82, Tryd.ntmps82
          go_wp2
          go_ret
          exact ⟨ret_i64 HO.out, rfl⟩
theorem place_any (h : Int) (w : World) : Calls Tryd.prog 79 #[.int .i64 h] w fun e w' => e = .returned (.int .i64 (placeOf h)) ∧ w = w' := by
  have hr := fun w => right_any h w
  cases hi : isH h
  · have e : placeOf h = -1 := if_neg (by rw [hi]; decide)
    rw [hi] at hr
    rw [e]
    go_enter Tryd.func79, Tryd.ntmps79
    go_wp2_with fail
    refine (hr _).mono ?_
    rintro e w1 ⟨rfl, rfl⟩
    go_wp2
    go_ret
    exact ⟨rfl, rfl⟩
  · have e : placeOf h = h % 65536 - 1 := if_pos hi
    have HA := Lib.hid (and16 h)
    rw [hi] at hr
    rw [e]
    clear e
    go_enter Tryd.func79, Tryd.ntmps79
    go_wp2_with fail
    refine (hr _).mono ?_
    rintro e w1 ⟨rfl, rfl⟩
    go_wp2_with (rw [HA.out])
    go_ret
    exact ⟨rfl, rfl⟩
theorem gen_any (h : Int) (w : World) : Calls Tryd.prog 83 #[.int .i64 h] w fun e w' => e = .returned (.int .i64 (genOf h)) ∧ w = w' := by
  have hr := fun w => right_any h w
  cases hi : isH h
  · have e : genOf h = -1 := if_neg (by rw [hi]; decide)
    rw [hi] at hr
    rw [e]
    go_enter Tryd.func83, Tryd.ntmps83
    go_wp2_with fail
    refine (hr _).mono ?_
    rintro e w1 ⟨rfl, rfl⟩
    go_wp2
    go_ret
    exact ⟨rfl, rfl⟩
  · have e : genOf h = h / 65536 := if_pos hi
    rw [hi] at hr
    rw [e]
    clear e
    go_enter Tryd.func83, Tryd.ntmps83
    go_wp2_with fail
    refine (hr _).mono ?_
    rintro e w1 ⟨rfl, rfl⟩
    go_wp2
    go_ret
    exact ⟨rfl, rfl⟩

/-- The library's table stands in its variable. -/
def TabAt (w : World) : Prop := ∀ j, j < 64 → w.cell? ⟨0, j, none⟩ = some (.int .u8 (Lib.deBruijn64tab.getD j 0))
theorem tz_key {x a : Nat} (hx : x < 18446744073709551616) (h0 : 0 < x) (low : x &&& (18446744073709551616 - x) = a) :
    IntKind.u64.wrap (bits .and .u64 (x : Int) (IntKind.u64.wrap (-(x : Int))) * 285870213051353865) / 288230376151711744 = ((a * 285870213051353865 % 18446744073709551616 / 288230376151711744 : Nat) : Int) := by
  have hw : ∀ n : Int, IntKind.u64.wrap n = n % 18446744073709551616 := fun n => by simp [IntKind.wrap, IntKind.signed, IntKind.bits]
  rw [hw, hw]
  have neg : -(x : Int) % 18446744073709551616 = ((18446744073709551616 - x : Nat) : Int) := by omega
  rw [neg, u64_and_nat _ _ hx (by omega), low]
  omega
theorem tz_core (x k idx : Nat) (w : World) (hx0 : ((x : Int) == 0) = false)
    (key : IntKind.u64.wrap (bits BinOp.and IntKind.u64 (x : Int) (IntKind.u64.wrap (-(x : Int))) * 285870213051353865) / 288230376151711744 = (idx : Int))
    (hi : idx < 64) (hk : k < 64) (hcell : w.cell? ⟨0, idx, none⟩ = some (.int .u8 k)) :
    Calls Tryd.prog 81 #[.int .u64 x] w fun e w' => e = .returned (.int .i64 k) ∧ w = w' := by
  go_enter Tryd.func81, Tryd.ntmps81
  go_wp2_with (simp only [key])
  go_ret
  exact ⟨rfl, rfl⟩
theorem tz_any (x : Nat) (hx : x < 18446744073709551616) (hx0 : x ≠ 0) (w : World) (hT : TabAt w) : Calls Tryd.prog 81 #[.int .u64 x] w fun e w' => e = .returned (.int .i64 (Lib.ctz 64 x)) ∧ w = w' := by
  obtain ⟨hlow, hk⟩ := Lib.lowest_bit 64 x hx0 hx
  obtain ⟨hi, htab⟩ := Lib.deBruijn64_at _ hk
  have hcell := hT _ hi
  rw [htab] at hcell
  exact tz_core x _ _ w (by simp; omega) (tz_key hx (by omega) hlow) hi hk hcell
end Go.Proofs.YteiikkkcjpfapaaDoor
