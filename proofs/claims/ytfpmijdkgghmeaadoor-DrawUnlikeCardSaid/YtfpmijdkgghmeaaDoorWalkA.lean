/- What TrailingZeros32, draw.Height, Next and the reference's Height, Next answer of any word and any levels; that the law is awake. Conditions: words are less than 2 to the 32; the library's table of 32 numbers stands in its variable. -/
import Derived.Test.YtfpmijdkgghmeaaDoorMath
import Derived.Test.YtfpmijdkgghmeaaDoorChecked
import Derived.WalkSpells
import Derived.WalkLawsBesides
import Derived.Lib.Hide
import Derived.Lib.MinMaxS
import Derived.Below
import Derived.KernelRfl
import Derived.Laws.BitsAllLaws
import Derived.Lib.LaidTab
namespace Go.Proofs.YtfpmijdkgghmeaaDoor
open Go.RowKit Go.Op
set_option maxRecDepth 100000

/-- The library's table stands in its variable. -/
def TabAt (w : World) : Prop := ∀ j, j < 32 → w.cell? ⟨0, j, none⟩ = some (.int .u8 (Lib.deBruijn32tab.getD j 0))
theorem ret_u32 {a b : Int} (h : a = b) : Ending.returned (.int .u32 a) = .returned (.int .u32 b) := by rw [h]
theorem ret_i64 {a b : Int} (h : a = b) : Ending.returned (.int .i64 a) = .returned (.int .i64 b) := by rw [h]
/-- The product's top five bits, once the word's lowest bit 1 is known to be a. -/
theorem tz_key {x a : Nat} (hx : x < 4294967296) (h0 : 0 < x) (low : x &&& (4294967296 - x) = a) :
    bits .and .u32 (x : Int) (-(x : Int) % 4294967296) * 125613361 % 4294967296 / 134217728 = ((a * 125613361 % 4294967296 / 134217728 : Nat) : Int) := by
  have neg : -(x : Int) % 4294967296 = ((4294967296 - x : Nat) : Int) := by omega
  rw [neg, u32_and_nat _ _ hx (by omega), low]
  omega
theorem tz_core (x k idx : Nat) (w : World) (hx0 : ((x : Int) == 0) = false)
    (key : bits BinOp.and IntKind.u32 (x : Int) (-(x : Int) % 4294967296) * 125613361 % 4294967296 / 134217728 = (idx : Int))
    (hi : idx < 32) (hk : k < 32) (hcell : w.cell? ⟨0, idx, none⟩ = some (.int .u8 k)) :
    Calls Tryd.prog 13 #[.int .u32 x] w fun e w' => e = .returned (.int .i64 k) ∧ w = w' := by
  go_enter Tryd.func13, Tryd.ntmps13
  go_wp2_with (simp only [key])
  go_ret
  exact ⟨rfl, rfl⟩
theorem tz_zero (w : World) : Calls Tryd.prog 13 #[.int .u32 0] w fun e w' => e = .returned (.int .i64 32) ∧ w = w' := by
  go_enter Tryd.func13, Tryd.ntmps13
  go_wp2
  go_ret
  exact ⟨rfl, rfl⟩
theorem tz_any (x : Nat) (hx : x < 4294967296) (w : World) (hT : TabAt w) : Calls Tryd.prog 13 #[.int .u32 x] w fun e w' => e = .returned (.int .i64 (Lib.ctz 32 x)) ∧ w = w' := by
  by_cases hx0 : x = 0
  · subst hx0
    exact tz_zero w
  · obtain ⟨hlow, hk⟩ := Lib.lowest_bit 32 x hx0 hx
    obtain ⟨hi, htab⟩ := Lib.deBruijn32_at _ hk
    have hcell := hT _ hi
    rw [htab] at hcell
    exact tz_core x _ _ w (by simp; omega) (tz_key hx (by omega) hlow) hi hk hcell
theorem not32 (a : Nat) (ha : a < 4294967296) : bits .xor .u32 IntKind.u32.max (a : Int) = ((4294967295 - a : Nat) : Int) := by
  have h1 : (BitVec.ofInt 32 (a : Int)).toNat = a := by
    rw [BitVec.ofInt_natCast, BitVec.toNat_ofNat]; exact Nat.mod_eq_of_lt (by omega)
  show IntKind.u32.wrap ((BitVec.ofInt 32 4294967295 ^^^ BitVec.ofInt 32 (a : Int)).toNat : Int) = _
  have h2 : BitVec.ofInt 32 4294967295 = BitVec.allOnes 32 := by decide
  rw [h2, BitVec.allOnes_xor, BitVec.toNat_not, h1, show ∀ n : Int, IntKind.u32.wrap n = n % 4294967296 from fun n => by simp [IntKind.wrap, IntKind.signed, IntKind.bits]]
  omega
theorem height_any (n : Nat) (hn : n < 4294967296) (l : Int) (w : World) (hT : TabAt w) : Calls Tryd.prog 8 #[.int .u32 (n : Int), .int .i64 l] w fun e w' => e = .returned (.int .i64 (ht n l : Nat)) ∧ w = w' := by
  have hz := fun w hT => tz_any (4294967295 - n) (by omega) w hT
  rw [ctz_word hn] at hz
  have HN := Lib.hid (not32 n hn)
  have HC := Lib.hid (ht_code n l)
  have hu := up_le 32 n
  generalize up 32 n = u at hz hu HC
  go_enter Tryd.func8, Tryd.ntmps8
  go_wp2_with fail
  rw [HN.out]
  refine (hz _ hT).mono ?_
  rintro e w1 ⟨rfl, rfl⟩
  go_wp2
  all_goals go_ret
  all_goals exact ⟨ret_i64 (by have := HC.out; omega), rfl⟩
theorem x1 {a : Nat} (h : a < 4294967296) : bits .xor .u32 (a : Int) ((a : Int) * 8192 % 4294967296) = (n1 a : Nat) := by
  rw [show ((a : Int) * 8192 % 4294967296) = ((a * 8192 % 4294967296 : Nat) : Int) by omega, u32_xor_nat _ _ h (Nat.mod_lt _ (by decide))]
  rfl
theorem x2 {a : Nat} (h : a < 4294967296) : bits .xor .u32 (a : Int) ((a : Int) / 131072) = (n2 a : Nat) := by
  rw [show ((a : Int) / 131072) = ((a / 131072 : Nat) : Int) by omega, u32_xor_nat _ _ h (by omega)]
  rfl
theorem x3 {a : Nat} (h : a < 4294967296) : bits .xor .u32 (a : Int) ((a : Int) * 32 % 4294967296) = (n3 a : Nat) := by
  rw [show ((a : Int) * 32 % 4294967296) = ((a * 32 % 4294967296 : Nat) : Int) by omega, u32_xor_nat _ _ h (Nat.mod_lt _ (by decide))]
  rfl
theorem next_any (n : Nat) (hn : n < 4294967296) (w : World) : Calls Tryd.prog 10 #[.int .u32 (n : Int)] w fun e w' => e = .returned (.int .u32 (nx n : Nat)) ∧ w = w' := by
  go_enter Tryd.func10, Tryd.ntmps10
  go_wp2
  go_ret
  exact ⟨ret_u32 (by rw [x1 hn, x2 (n1_lt hn), x3 (n2_lt (n1_lt hn))]; rfl), rfl⟩
theorem y1 {a : Nat} (h : a < 4294967296) : bits .xor .u64 (a : Int) ((a : Int) * 8192 % 4294967296) = (n1 a : Nat) := by
  rw [show ((a : Int) * 8192 % 4294967296) = ((a * 8192 % 4294967296 : Nat) : Int) by omega, u64_xor_nat _ _ (by omega) (by omega)]
  rfl
theorem y2 {a : Nat} (h : a < 4294967296) : bits .xor .u64 (a : Int) (IntKind.u64.wrap ((a : Int).tdiv 131072)) = (n2 a : Nat) := by
  rw [show ((a : Int).tdiv 131072) = ((a / 131072 : Nat) : Int) from rfl, IntWalk.u64_in _ ⟨by omega, by omega⟩, u64_xor_nat _ _ (by omega) (by omega)]
  rfl
theorem y3 {a : Nat} (h : a < 4294967296) : bits .xor .u64 (a : Int) ((IntKind.u64.wrap ((a : Int) * 32)).tmod 4294967296) = (n3 a : Nat) := by
  rw [IntWalk.u64_in _ ⟨by omega, by omega⟩, show ((a : Int) * 32) = ((a * 32 : Nat) : Int) by omega, show (((a * 32 : Nat) : Int).tmod 4294967296) = ((a * 32 % 4294967296 : Nat) : Int) from rfl, u64_xor_nat _ _ (by omega) (by omega)]
  rfl
theorem refnext_any (n : Nat) (hn : n < 4294967296) (w : World) : Calls Tryd.prog 11 #[.int .u32 (n : Int)] w fun e w' => e = .returned (.int .u32 (nx n : Nat)) ∧ w = w' := by
  go_enter Tryd.func11, Tryd.ntmps11
  go_wp2
  go_ret
  exact ⟨ret_u32 (by rw [y1 hn, y2 (n1_lt hn), y3 (n2_lt (n1_lt hn))]; exact Int.emod_eq_of_lt (Int.natCast_nonneg _) (by have := nx_lt hn; unfold nx at this; omega)), rfl⟩
theorem up_at (f w : Nat) : up f w = if w % 2 = 1 ∧ 0 < f then 1 + up (f - 1) (w / 2) else 0 := by
  cases f with
  | zero => simp [up]
  | succ f =>
    show (if w % 2 = 1 then 1 + up f (w / 2) else 0) = _
    by_cases h : w % 2 = 1
    · rw [if_pos h, if_pos ⟨h, by omega⟩]; rfl
    · rw [if_neg h, if_neg (by omega)]
set_option maxHeartbeats 1000000 in
theorem refheight_any (n : Nat) (hn : n < 4294967296) (l : Int) (w : World) : Calls Tryd.prog 9 #[.int .u32 (n : Int), .int .i64 l] w fun e w' => e = .returned (.int .i64 (ht n l : Nat)) ∧ w = w' := by
  by_cases h0 : l > 24
  · have hlv : (lv l : Int) = 24 := by unfold lv; omega
    go_enter Tryd.func9, Tryd.ntmps9
    go_wp2
    go_loop [0, 5] (fun xv cv => ∃ x c : Nat, xv = .int .u32 (x : Int) ∧ cv = .int .i64 (c : Int) ∧ x < 4294967296 ∧ 1 ≤ c ∧ c ≤ lv l ∧ ht n l = c + up (lv l - c) x) (fun _ cv => lv l - (intOf cv).toNat)
    case atStart => exact ⟨n, 1, rfl, rfl, hn, Nat.le_refl _, lv_one l, rfl⟩
    case round =>
      obtain ⟨x, c, rfl, rfl, hx, hc, hc2, he⟩ := hrel
      have HS := Lib.hid (up_at (lv l - c) x)
      have HE := Lib.hid he
      have HL := Lib.hid hlv
      generalize lv l = L at hc2 HS HE HL
      clear he hlv
      by_cases h1 : x % 2 = 1
      · have i1 : (x : Int) % 2 = 1 := by omega
        have i1t : (x : Int).tmod 2 = 1 := by rw [Int.tmod_eq_emod_of_nonneg (Int.natCast_nonneg _)]; exact i1
        by_cases h2 : c < L
        · have i2 : (c : Int) < 24 := by have := HL.out; omega
          go_wp2
          go_round
          case rel => exact ⟨x / 2, c + 1, by go_num, by go_num, by omega, by omega, by omega, by have := HE.out; have := HS.out; rw [if_pos ⟨h1, by omega⟩] at this; rw [show L - (c + 1) = L - c - 1 by omega]; omega⟩
          case measure => simp [intOf]; omega
        · have i2 : ¬ (c : Int) < 24 := by have := HL.out; omega
          go_wp2
          go_ret
          exact ⟨ret_i64 (by have := HE.out; have := HS.out; rw [if_neg (by omega)] at this; omega), rfl⟩
      · have i1 : ¬ (x : Int) % 2 = 1 := by omega
        have i1t : ¬ (x : Int).tmod 2 = 1 := by rw [Int.tmod_eq_emod_of_nonneg (Int.natCast_nonneg _)]; exact i1
        go_wp2
        go_ret
        exact ⟨ret_i64 (by have := HE.out; have := HS.out; rw [if_neg (by omega)] at this; omega), rfl⟩
  · have hlv : (lv l : Int) = max 1 l := by unfold lv; omega
    go_enter Tryd.func9, Tryd.ntmps9
    go_wp2
    go_loop [0, 5] (fun xv cv => ∃ x c : Nat, xv = .int .u32 (x : Int) ∧ cv = .int .i64 (c : Int) ∧ x < 4294967296 ∧ 1 ≤ c ∧ c ≤ lv l ∧ ht n l = c + up (lv l - c) x) (fun _ cv => lv l - (intOf cv).toNat)
    case atStart => exact ⟨n, 1, rfl, rfl, hn, Nat.le_refl _, lv_one l, rfl⟩
    case round =>
      obtain ⟨x, c, rfl, rfl, hx, hc, hc2, he⟩ := hrel
      have HS := Lib.hid (up_at (lv l - c) x)
      have HE := Lib.hid he
      have HL := Lib.hid hlv
      generalize lv l = L at hc2 HS HE HL
      clear he hlv
      by_cases h1 : x % 2 = 1
      · have i1 : (x : Int) % 2 = 1 := by omega
        have i1t : (x : Int).tmod 2 = 1 := by rw [Int.tmod_eq_emod_of_nonneg (Int.natCast_nonneg _)]; exact i1
        by_cases h2 : c < L
        · have i2 : (c : Int) < l := by have := HL.out; omega
          go_wp2
          go_round
          case rel => exact ⟨x / 2, c + 1, by go_num, by go_num, by omega, by omega, by omega, by have := HE.out; have := HS.out; rw [if_pos ⟨h1, by omega⟩] at this; rw [show L - (c + 1) = L - c - 1 by omega]; omega⟩
          case measure => simp [intOf]; omega
        · have i2 : ¬ (c : Int) < l := by have := HL.out; omega
          go_wp2
          go_ret
          exact ⟨ret_i64 (by have := HE.out; have := HS.out; rw [if_neg (by omega)] at this; omega), rfl⟩
      · have i1 : ¬ (x : Int) % 2 = 1 := by omega
        have i1t : ¬ (x : Int).tmod 2 = 1 := by rw [Int.tmod_eq_emod_of_nonneg (Int.natCast_nonneg _)]; exact i1
        go_wp2
        go_ret
        exact ⟨ret_i64 (by have := HE.out; have := HS.out; rw [if_neg (by omega)] at this; omega), rfl⟩
theorem awake_any (w : World) (hT : TabAt w) : Calls Tryd.prog 7 #[] w fun e w' => e = .returned (.bool true) ∧ w = w' := by
  have hh := fun w hT => height_any 3 (by decide) 24 w hT
  rw [ht_three] at hh
  have hx := fun w => next_any 1 (by decide) w
  rw [nx_one] at hx
  go_enter Tryd.func7, Tryd.ntmps7
  go_wp2_with fail
  refine (hh _ hT).mono ?_
  rintro e w1 ⟨rfl, rfl⟩
  go_wp2_with fail
  refine (hx _).mono ?_
  rintro e w1 ⟨rfl, rfl⟩
  go_wp2
  go_ret
  exact ⟨rfl, rfl⟩
end Go.Proofs.YtfpmijdkgghmeaaDoor
