/- What Handle, Right, Place, Gen of tag and of the reference answer of any numbers of 64 bits. Conditions: the numbers are of 64 bits. -/
import Derived.Test.YtjlifkhpohfiaaaKWalkD
import Derived.Test.YtjlifkhpohfiaaaPWalkC
import Derived.WalkKit
import Derived.Handy
import Derived.Below
import Derived.Lib.Hide
import Derived.Lib.MinMaxS
import Derived.WalkSpells
import Derived.WalkLawsBesides
import Derived.Laws.BitsAllLaws
import Derived.KernelRfl
namespace Go.Proofs.Ytjlifkhpohfiaaa
open Go.RowKit Go.Op
set_option maxRecDepth 100000


/-- The lowest k bits of a number of 64 bits. -/
theorem and_low (k : Nat) (hk : k ≤ 62) (n m : Int) (hm : (BitVec.ofInt 64 m).toNat = 2 ^ k - 1) : bits .and .i64 n m = n % ((2 ^ k : Nat) : Int) := by
  have key : (BitVec.ofInt 64 n &&& BitVec.ofInt 64 m).toNat = (n % ((2 ^ 64 : Nat) : Int)).toNat % 2 ^ k := by
    rw [BitVec.toNat_and, BitVec.toNat_ofInt, hm, Nat.and_two_pow_sub_one_eq_mod]
  show IntKind.i64.wrap ((BitVec.ofInt 64 n &&& BitVec.ofInt 64 m).toNat : Nat) = _
  have hd : ((2 ^ k : Nat) : Int) ∣ ((2 ^ 64 : Nat) : Int) := Int.ofNat_dvd.mpr (Nat.pow_dvd_pow 2 (by omega))
  have hl : (2 ^ k : Nat) ≤ 2 ^ 62 := Nat.pow_le_pow_right (by decide) hk
  have hp : 0 < (2 ^ k : Nat) := Nat.two_pow_pos k
  have e : (((n % ((2 ^ 64 : Nat) : Int)).toNat % 2 ^ k : Nat) : Int) = n % ((2 ^ k : Nat) : Int) := by
    rw [Int.natCast_emod, Int.toNat_of_nonneg (Int.emod_nonneg _ (by decide)), Int.emod_emod_of_dvd n hd]
  rw [key, e, IntKind.wrap_i64]
  generalize (2 ^ k : Nat) = c at *
  have h1 := Int.emod_nonneg n (b := (c : Int)) (by omega)
  have h2 := Int.emod_lt_of_pos n (b := (c : Int)) (by omega)
  omega
theorem and16 (n : Int) : bits .and .i64 n 65535 = n % 65536 := and_low 16 (by decide) n 65535 (by decide)
theorem and31 (n : Int) : bits .and .i64 n 2147483647 = n % 2147483648 := and_low 31 (by decide) n 2147483647 (by decide)
/-- Numbers side by side. -/
theorem or_side (k : Nat) (a b : Nat) (ha : a % 2 ^ k = 0) (hb : b < 2 ^ k) (hs : a + b < 9223372036854775808) : bits .or .i64 (a : Int) (b : Int) = (a : Int) + (b : Int) := by
  show IntKind.i64.wrap ((BitVec.ofInt 64 (a : Int) ||| BitVec.ofInt 64 (b : Int)).toNat : Int) = _
  rw [BitVec.toNat_or, ofInt_u64 a (by omega), ofInt_u64 b (by omega), nat_join k a b ha hb, IntKind.wrap_i64]
  omega
theorem or16 (g p : Int) (h1 : 0 ≤ g) (h2 : g ≤ 16383) (h3 : 0 ≤ p) (h4 : p ≤ 65534) : bits .or .i64 (g * 65536) (p + 1) = g * 65536 + p + 1 := by
  have := or_side 16 (g.toNat * 65536) (p.toNat + 1) (by omega) (by omega) (by omega)
  rw [show g * 65536 = ((g.toNat * 65536 : Nat) : Int) by omega, show p + 1 = ((p.toNat + 1 : Nat) : Int) by omega, this]
  omega
theorem or31 (v h : Int) (h1 : 0 ≤ v) (h2 : v ≤ 1073741824) (h3 : 0 ≤ h) (h4 : h < 1073741824) : bits .or .i64 (v * 2147483648) h = v * 2147483648 + h := by
  have := or_side 31 (v.toNat * 2147483648) h.toNat (by omega) (by omega) (by omega)
  rw [show v * 2147483648 = ((v.toNat * 2147483648 : Nat) : Int) by omega]
  conv => lhs; rw [show h = (h.toNat : Int) by omega]
  rw [this]
  omega

/-- Is a number a handle? -/
def isH (h : Int) : Bool := decide (0 < h ∧ h < 1073741824 ∧ 0 < h % 65536)
/-- The handle of a place and a generation. -/
def hand (p g : Int) : Int := if 0 ≤ p ∧ p ≤ 65534 ∧ 0 ≤ g ∧ g ≤ 16383 then g * 65536 + p + 1 else 0
/-- The tword of a handle and a version. -/
def tword (h v : Int) : Int := if (h = 0 ∨ isH h = true) ∧ 0 ≤ v ∧ v ≤ 1073741824 then v * 2147483648 + h else -1
/-- A word's handle. -/
def tto (w : Int) : Int := if 0 ≤ w ∧ isH (w % 2147483648) = true then w % 2147483648 else 0
/-- A word's version. -/
def tstamp (w : Int) : Int := if (0 ≤ w ∧ w / 2147483648 ≤ 1073741824) ∧ (w % 2147483648 = 0 ∨ isH (w % 2147483648) = true) then w / 2147483648 else -1
def placeOf (h : Int) : Int := if isH h = true then h % 65536 - 1 else -1
def genOf (h : Int) : Int := if isH h = true then h / 65536 else -1

theorem hright_any (h : Int) (w : World) : Calls Try.prog 38 #[.int .i64 h] w fun e w' => e = .returned (.bool (isH h)) ∧ w = w' := by
  by_cases h1 : 0 < h
  · by_cases h2 : h / 65536 ≤ 16383
    · by_cases h3 : h % 65536 = 0
      · have e : isH h = false := decide_eq_false (by omega)
        have HA := Lib.hid (and16 h)
        rw [h3] at HA
        rw [e]
        go_enter Try.func38, Try.ntmps38
        go_wp2_with (rw [HA.out])
        go_ret
        exact ⟨rfl, rfl⟩
      · have e : isH h = true := decide_eq_true (by omega)
        have HA := Lib.hid (and16 h)
        rw [e]
        go_enter Try.func38, Try.ntmps38
        go_wp2_with (rw [HA.out])
        go_ret
        exact ⟨ret_bool (by simp; omega), rfl⟩
    · have e : isH h = false := decide_eq_false (by omega)
      rw [e]
      go_enter Try.func38, Try.ntmps38
      go_wp2
      go_ret
      exact ⟨rfl, rfl⟩
  · have e : isH h = false := decide_eq_false (by omega)
    rw [e]
    go_enter Try.func38, Try.ntmps38
    go_wp2
    go_ret
    exact ⟨rfl, rfl⟩
theorem handle_any (p g : Int) (w : World) : Calls Try.prog 35 #[.int .i64 p, .int .i64 g] w fun e w' => e = .returned (.int .i64 (hand p g)) ∧ w = w' := by
  by_cases h1 : p < 0
  · have e : hand p g = 0 := if_neg (by omega)
    rw [e]
    go_enter Try.func35, Try.ntmps35
    go_wp2
    go_ret
    exact ⟨rfl, rfl⟩
  · by_cases h2 : p ≥ 65535
    · have e : hand p g = 0 := if_neg (by omega)
      rw [e]
      go_enter Try.func35, Try.ntmps35
      go_wp2
      go_ret
      exact ⟨rfl, rfl⟩
    · by_cases h3 : g < 0
      · have e : hand p g = 0 := if_neg (by omega)
        rw [e]
        go_enter Try.func35, Try.ntmps35
        go_wp2
        go_ret
        exact ⟨rfl, rfl⟩
      · by_cases h4 : 16383 < g
        · have e : hand p g = 0 := if_neg (by omega)
          rw [e]
          go_enter Try.func35, Try.ntmps35
          go_wp2
          go_ret
          exact ⟨rfl, rfl⟩
        · have e : hand p g = g * 65536 + p + 1 := if_pos (by omega)
          have HO := Lib.hid (or16 g p (by omega) (by omega) (by omega) (by omega))
          rw [e]
          go_enter Try.func35, Try.ntmps35
          go_wp2
          go_ret
          exact ⟨ret_i64 HO.out, rfl⟩
theorem isH_in {h : Int} (hi : isH h = true) : 0 < h ∧ h < 1073741824 ∧ 0 < h % 65536 := of_decide_eq_true hi
theorem tword_any (h v : Int) (w : World) : Calls Try.prog 16 #[.int .i64 h, .int .i64 v] w fun e w' => e = .returned (.int .i64 (tword h v)) ∧ w = w' := by
  by_cases h0 : h = 0
  · subst h0
    by_cases h1 : v < 0
    · have e : tword 0 v = -1 := if_neg (by omega)
      rw [e]
      go_enter Try.func16, Try.ntmps16
      go_wp2
      go_ret
      exact ⟨rfl, rfl⟩
    · by_cases h2 : 1073741824 < v
      · have e : tword 0 v = -1 := if_neg (by omega)
        rw [e]
        go_enter Try.func16, Try.ntmps16
        go_wp2
        go_ret
        exact ⟨rfl, rfl⟩
      · have e : tword 0 v = v * 2147483648 := (if_pos ⟨Or.inl rfl, by omega, by omega⟩ : tword 0 v = v * 2147483648 + 0).trans (Int.add_zero _)
        have HO := Lib.hid ((or31 v 0 (by omega) (by omega) (by omega) (by omega)).trans (Int.add_zero _))
        rw [e]
        go_enter Try.func16, Try.ntmps16
        go_wp2
        go_ret
        exact ⟨ret_i64 HO.out, rfl⟩
  · have hr := fun w => hright_any h w
    cases hi : isH h
    · have e : tword h v = -1 := if_neg (by rw [hi]; simp [h0])
      rw [hi] at hr
      rw [e]
      go_enter Try.func16, Try.ntmps16
      go_wp2_with fail
      refine (hr _).mono ?_
      rintro e w1 ⟨rfl, rfl⟩
      go_wp2
      go_ret
      exact ⟨rfl, rfl⟩
    · rw [hi] at hr
      obtain ⟨i1, i2, i3⟩ := isH_in hi
      by_cases h1 : v < 0
      · have e : tword h v = -1 := if_neg (by omega)
        rw [e]
        go_enter Try.func16, Try.ntmps16
        go_wp2_with fail
        refine (hr _).mono ?_
        rintro e w1 ⟨rfl, rfl⟩
        go_wp2
        go_ret
        exact ⟨rfl, rfl⟩
      · by_cases h2 : 1073741824 < v
        · have e : tword h v = -1 := if_neg (by omega)
          rw [e]
          go_enter Try.func16, Try.ntmps16
          go_wp2_with fail
          refine (hr _).mono ?_
          rintro e w1 ⟨rfl, rfl⟩
          go_wp2
          go_ret
          exact ⟨rfl, rfl⟩
        · have e : tword h v = v * 2147483648 + h := if_pos ⟨Or.inr hi, by omega, by omega⟩
          have HO := Lib.hid (or31 v h (by omega) (by omega) (by omega) (by omega))
          rw [e]
          go_enter Try.func16, Try.ntmps16
          go_wp2_with fail
          refine (hr _).mono ?_
          rintro e w1 ⟨rfl, rfl⟩
          go_wp2
          go_ret
          exact ⟨ret_i64 HO.out, rfl⟩
theorem tto_any (x : Int) (w : World) : Calls Try.prog 18 #[.int .i64 x] w fun e w' => e = .returned (.int .i64 (tto x)) ∧ w = w' := by
  have HA := Lib.hid (and31 x)
  by_cases h1 : x < 0
  · have e : tto x = 0 := if_neg (by omega)
    rw [e]
    go_enter Try.func18, Try.ntmps18
    go_wp2
    go_ret
    exact ⟨rfl, rfl⟩
  · have hr := fun w => hright_any (x % 2147483648) w
    cases hi : isH (x % 2147483648)
    · have e : tto x = 0 := if_neg (by rw [hi]; simp)
      rw [hi] at hr
      rw [e]
      go_enter Try.func18, Try.ntmps18
      go_wp2_with (rw [HA.out])
      refine (hr _).mono ?_
      rintro e w1 ⟨rfl, rfl⟩
      go_wp2
      go_ret
      exact ⟨rfl, rfl⟩
    · have e : tto x = x % 2147483648 := if_pos ⟨by omega, hi⟩
      rw [hi] at hr
      rw [e]
      clear e
      go_enter Try.func18, Try.ntmps18
      go_wp2_with (rw [HA.out])
      refine (hr _).mono ?_
      rintro e w1 ⟨rfl, rfl⟩
      go_wp2
      go_ret
      exact ⟨rfl, rfl⟩
theorem tstamp_any (x : Int) (w : World) : Calls Try.prog 20 #[.int .i64 x] w fun e w' => e = .returned (.int .i64 (tstamp x)) ∧ w = w' := by
  have HA := Lib.hid (and31 x)
  have ht := fun w => tto_any x w
  by_cases h1 : x / 2147483648 < 0
  · have e : tstamp x = -1 := if_neg (by omega)
    rw [e]
    go_enter Try.func20, Try.ntmps20
    go_wp2
    go_ret
    exact ⟨rfl, rfl⟩
  · by_cases h2 : 1073741824 < x / 2147483648
    · have e : tstamp x = -1 := if_neg (by omega)
      rw [e]
      go_enter Try.func20, Try.ntmps20
      go_wp2
      go_ret
      exact ⟨rfl, rfl⟩
    · by_cases h3 : x % 2147483648 = tto x
      · have e : tstamp x = x / 2147483648 := if_pos ⟨by omega, by
          by_cases h4 : isH (x % 2147483648) = true
          · exact Or.inr h4
          · left
            rw [h3]
            exact if_neg (fun a => h4 a.2)⟩
        rw [← h3] at ht
        rw [e]
        clear e h3
        go_enter Try.func20, Try.ntmps20
        go_wp2_with (rw [HA.out])
        refine (ht _).mono ?_
        rintro e w1 ⟨rfl, rfl⟩
        go_wp2_with (rw [HA.out])
        go_ret
        exact ⟨rfl, rfl⟩
      · have h4 : ¬ isH (x % 2147483648) = true := fun a => h3 (show x % 2147483648 = tto x from (if_pos (show 0 ≤ x ∧ isH (x % 2147483648) = true from ⟨by omega, a⟩)).symm)
        have e0 : tto x = 0 := if_neg (fun a => h4 a.2)
        rw [e0] at h3 ht
        have e : tstamp x = -1 := if_neg (by
          rintro ⟨_, a | a⟩
          · exact h3 a
          · exact h4 a)
        rw [e]
        clear e e0 h4
        go_enter Try.func20, Try.ntmps20
        go_wp2_with (rw [HA.out])
        refine (ht _).mono ?_
        rintro e w1 ⟨rfl, rfl⟩
        go_wp2_with (rw [HA.out])
        go_ret
        exact ⟨rfl, rfl⟩
theorem hand_is {P G : Int} (p0 : 0 ≤ P) (p1 : P < 65535) (g0 : 0 ≤ G) (g1 : G < 16384) : hand P G = G * 65536 + P + 1 ∧ isH (hand P G) = true := by
  have e : hand P G = G * 65536 + P + 1 := if_pos (by omega)
  exact ⟨e, decide_eq_true (by omega)⟩
theorem tto_word {h v : Int} (hh : h = 0 ∨ isH h = true) (h0 : 0 ≤ v) (h1 : v ≤ 1073741824) : tto (tword h v) = h := by
  rw [tword, if_pos ⟨hh, h0, h1⟩]
  have hb : 0 ≤ h ∧ h < 1073741824 := by
    rcases hh with rfl | hi
    · omega
    · have := isH_in hi; omega
  have e : (v * 2147483648 + h) % 2147483648 = h := by omega
  rw [tto, e]
  rcases hh with rfl | hi
  · split <;> rfl
  · rw [if_pos ⟨by omega, hi⟩]
theorem tstamp_word {h v : Int} (hh : h = 0 ∨ isH h = true) (h0 : 0 ≤ v) (h1 : v ≤ 1073741824) : tstamp (tword h v) = v := by
  rw [tword, if_pos ⟨hh, h0, h1⟩]
  have hb : 0 ≤ h ∧ h < 1073741824 := by
    rcases hh with rfl | hi
    · omega
    · have := isH_in hi; omega
  have e : (v * 2147483648 + h) % 2147483648 = h := by omega
  have e2 : (v * 2147483648 + h) / 2147483648 = v := by omega
  rw [tstamp, e, e2]
  exact if_pos ⟨by omega, hh⟩
end Go.Proofs.Ytjlifkhpohfiaaa
