/- What bits.Len, Size, the reference's Size, first, next, Slot answer of any number and any key. Conditions: sizes up to 2^40, keys of at most 1000000 bytes. -/
import Derived.Test.YtjlifkhpohfiaaaPWalkB
import Derived.Test.YtjlifkhpohfiaaaPMathB
import Derived.Test.YtjlifkhpohfiaaaPShelf
namespace Go.Proofs.Ytjlifkhpohfiaaa
open Go.RowKit Go.Op
set_option maxRecDepth 100000

theorem ret_i64 {a b : Int} (h : a = b) : Ending.returned (.int .i64 a) = .returned (.int .i64 b) := by rw [h]
theorem bitLenAux_is : ∀ (f x : Nat), x < 2 ^ f → Lib.bitLenAux f x = blen x
  | 0, x, h => by
    obtain rfl : x = 0 := by simpa using h
    rfl
  | f + 1, x, h => by
    unfold Lib.bitLenAux
    split
    · subst x; rfl
    · rw [bitLenAux_is f (x / 2) (by rw [Nat.pow_succ] at h; omega)]
      by_cases h1 : x = 1
      · subst h1; rfl
      · exact (blen_div (x := x) (k := 1) (show 2 ^ 1 ≤ x by omega)).symm
theorem bitLen_is (x : Nat) (h : x < 18446744073709551616) : Lib.bitLen x = blen x := bitLenAux_is 64 x h
theorem len_any (x : Nat) (hx : x < 18446744073709551616) (w : World) : Calls Try.prog 63 #[.int .u64 (x : Int)] w fun e w' => e = .returned (.int .i64 (blen x : Nat)) ∧ w = w' := by
  refine (Try.bits_Len (x : Int) w (by omega) (by omega)).mono ?_
  rintro e w' ⟨rfl, rfl⟩
  rw [show ((x : Int)).toNat = x by omega, bitLen_is x hx]
  exact ⟨rfl, rfl⟩
theorem size_any (z : Int) (hz : z ≤ 1099511627776) (w : World) : Calls Try.prog 54 #[.int .i64 z] w fun e w' => e = .returned (.int .i64 (sz z.toNat : Nat)) ∧ w = w' := by
  have hb := blen_max (x := z.toNat - 1) (b := 40) (by omega)
  have hl := fun w => len_any (z.toNat - 1) (by omega) w
  have HM := Lib.hid (show max z 1 - 1 = ((z.toNat - 1 : Nat) : Int) by omega)
  have HS : sz z.toNat = 2 ^ (blen (z.toNat - 1) + 1) := rfl
  generalize blen (z.toNat - 1) = b at hb hl HS
  go_enter Try.func54, Try.ntmps54
  go_wp2_with fail
  rw [HM.out]
  refine (hl _).mono ?_
  rintro e w1 ⟨rfl, rfl⟩
  go_wp2
  go_ret
  refine ⟨ret_i64 ?_, rfl⟩
  have hq : 2 ^ b ≤ 2 ^ 40 := Nat.pow_le_pow_right (by decide) hb
  have hp : (2 : Int) ^ b = ((2 ^ b : Nat) : Int) := by rw [Int.natCast_pow]; rfl
  change wrap64 (2 * 2 ^ b) = _
  rw [hp, HS, Nat.pow_succ]
  generalize 2 ^ b = q at hq ⊢
  rw [IntWalk.wrap64_in _ ⟨by omega, by omega⟩]
  omega
theorem first_any (k : ByteArray) (m : Nat) (hk : k.size ≤ 1000000) (h0 : 0 < m) (hm : m ≤ 1099511627776) (w : World) : Calls Try.prog 55 #[.string k, .int .i64 (m : Int)] w fun e w' => e = .returned (.int .i64 (sum k % m : Nat)) ∧ w = w' := by
  have ho := fun w => hashof_any k hk w
  have hs : sum k < 4294967296 := fin_lt _
  have hm1 : ¬ (m : Int) = 0 := by omega
  generalize sum k = S at ho hs ⊢
  go_enter Try.func55, Try.ntmps55
  go_wp2_with fail
  refine (ho _).mono ?_
  rintro e w1 ⟨rfl, rfl⟩
  go_wp2
  go_ret
  refine ⟨ret_i64 ?_, rfl⟩
  have hr := Nat.mod_lt S h0
  change wrap64 ((S : Int) % (m : Int)) = _
  rw [← Int.natCast_emod]
  generalize S % m = r at hr ⊢
  exact IntWalk.wrap64_in _ ⟨by omega, by omega⟩
theorem next_any (a m : Nat) (ha : a < m) (hm : m ≤ 1099511627776) (w : World) : Calls Try.prog 57 #[.int .i64 (a : Int), .int .i64 (m : Int)] w fun e w' => e = .returned (.int .i64 ((a + 1) % m : Nat)) ∧ w = w' := by
  have hm1 : ¬ (m : Int) = 0 := by omega
  go_enter Try.func57, Try.ntmps57
  go_wp2
  go_ret
  exact ⟨ret_i64 (by rw [Int.natCast_emod]; rfl), rfl⟩
end Go.Proofs.Ytjlifkhpohfiaaa
