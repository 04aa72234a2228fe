/- What within, Rate, Limit, Splits, Joins of both answer of any numbers. Conditions: numbers of 64 bits where the code subtracts. -/
import Derived.Test.YtelibdiaihhfeaaProg
import Derived.WalkKit
import Derived.Handy
import Derived.Below
import Derived.Lib.Hide
import Derived.Lib.MinMaxS
import Derived.WalkSpells
import Derived.WalkLawsBesides
import Derived.KernelRfl
namespace Go.Proofs.Ytelibdiaihhfeaa
open Go.RowKit Go.Op
set_option maxRecDepth 100000

def win (n lo hi : Int) : Int := min (max n lo) hi
def rated (r n : Int) : Int := win r 0 4080 + (16 * win n 0 255 - win r 0 4080).tdiv 4
def limited (r lo hi : Int) : Int := min (win lo 2 64 + win r 0 4080 / 16) (max (win lo 2 64) (win hi 2 64))
def joined (a b l : Int) : Bool := decide (2 * (win a 0 1073741824 + win b 0 1073741824) ≤ l)
theorem ret_i64 {a b : Int} (h : a = b) : Ending.returned (.int .i64 a) = .returned (.int .i64 b) := by rw [h]
theorem ret_bool {a b : Bool} (h : a = b) : Ending.returned (.bool a) = .returned (.bool b) := by rw [h]

theorem within_any (n lo hi : Int) (w : World) : Calls Try.prog 15 #[.int .i64 n, .int .i64 lo, .int .i64 hi] w fun e w' => e = .returned (.int .i64 (win n lo hi)) ∧ w = w' := by
  go_enter Try.func15, Try.ntmps15
  go_wp2
  go_ret
  exact ⟨rfl, rfl⟩
theorem win_in {n lo hi : Int} (h : lo ≤ hi) : lo ≤ win n lo hi ∧ win n lo hi ≤ hi := by unfold win; omega
theorem refwithin_any (n lo hi : Int) (h : lo ≤ hi) (w : World) : Calls Try.prog 16 #[.int .i64 n, .int .i64 lo, .int .i64 hi] w fun e w' => e = .returned (.int .i64 (win n lo hi)) ∧ w = w' := by
  by_cases h1 : n < lo
  · have e : win n lo hi = lo := by unfold win; omega
    rw [e]
    go_enter Try.func16, Try.ntmps16
    go_wp2
    go_ret
    exact ⟨rfl, rfl⟩
  · by_cases h2 : hi < n
    · have e : win n lo hi = hi := by unfold win; omega
      rw [e]
      go_enter Try.func16, Try.ntmps16
      go_wp2
      go_ret
      exact ⟨rfl, rfl⟩
    · have e : win n lo hi = n := by unfold win; omega
      rw [e]
      go_enter Try.func16, Try.ntmps16
      go_wp2
      go_ret
      exact ⟨rfl, rfl⟩
theorem quarter (z : Int) : z.tdiv 4 = if 0 ≤ z then z / 4 else -((-z) / 4) := by
  split
  · exact Int.tdiv_eq_ediv_of_nonneg (by assumption)
  · have h : z = -(-z) := by omega
    rw [h, Int.neg_tdiv, Int.tdiv_eq_ediv_of_nonneg (by omega)]
    omega
theorem rated_in (r n : Int) : 0 ≤ rated r n ∧ rated r n ≤ 4080 := by
  have h1 := win_in (n := r) (show (0 : Int) ≤ 4080 by decide)
  have h2 := win_in (n := n) (show (0 : Int) ≤ 255 by decide)
  unfold rated
  rw [quarter]
  split <;> omega
theorem rate_any (r n : Int) (w : World) : Calls Try.prog 8 #[.int .i64 r, .int .i64 n] w fun e w' => e = .returned (.int .i64 (rated r n)) ∧ w = w' := by
  have ha := fun w => within_any r 0 4080 w
  have hb := fun w => within_any n 0 255 w
  obtain ⟨p, p'⟩ := win_in (n := r) (show (0 : Int) ≤ 4080 by decide)
  obtain ⟨q, q'⟩ := win_in (n := n) (show (0 : Int) ≤ 255 by decide)
  have hr := rated_in r n
  unfold rated at hr ⊢
  generalize win r 0 4080 = x at *
  generalize win n 0 255 = y at *
  have HW := Lib.hid (IntWalk.wrap64_in (x + (16 * y - x).tdiv 4) ⟨by omega, by omega⟩)
  clear hr
  go_enter Try.func8, Try.ntmps8
  go_wp2_with fail
  refine (ha _).mono ?_
  rintro e w1 ⟨rfl, rfl⟩
  go_wp2_with fail
  refine (hb _).mono ?_
  rintro e w1 ⟨rfl, rfl⟩
  go_wp2
  go_ret
  exact ⟨ret_i64 HW.out, rfl⟩
set_option maxHeartbeats 1000000 in
theorem refrate_any (r n : Int) (w : World) : Calls Try.prog 9 #[.int .i64 r, .int .i64 n] w fun e w' => e = .returned (.int .i64 (rated r n)) ∧ w = w' := by
  have ha := fun w => refwithin_any r 0 4080 (by decide) w
  have hb := fun w => refwithin_any n 0 255 (by decide) w
  obtain ⟨p, p'⟩ := win_in (n := r) (show (0 : Int) ≤ 4080 by decide)
  obtain ⟨q, q'⟩ := win_in (n := n) (show (0 : Int) ≤ 255 by decide)
  unfold rated
  generalize win r 0 4080 = x at *
  generalize win n 0 255 = y at *
  by_cases hc : x ≤ 16 * y
  · have HW := Lib.hid (show x + (16 * y - x) / 4 = x + (16 * y - x).tdiv 4 by rw [quarter, if_pos (by omega)])
    go_enter Try.func9, Try.ntmps9
    go_wp2_with fail
    refine (ha _).mono ?_
    rintro e w1 ⟨rfl, rfl⟩
    go_wp2_with fail
    refine (hb _).mono ?_
    rintro e w1 ⟨rfl, rfl⟩
    go_wp2
    go_ret
    exact ⟨ret_i64 HW.out, rfl⟩
  · have HW := Lib.hid (show x - (x - 16 * y) / 4 = x + (16 * y - x).tdiv 4 by rw [quarter, if_neg (by omega)]; omega)
    have hd : 16 * y < x := by omega
    go_enter Try.func9, Try.ntmps9
    go_wp2_with fail
    refine (ha _).mono ?_
    rintro e w1 ⟨rfl, rfl⟩
    go_wp2_with fail
    refine (hb _).mono ?_
    rintro e w1 ⟨rfl, rfl⟩
    go_wp2
    go_ret
    exact ⟨ret_i64 HW.out, rfl⟩
theorem limit_any (r lo hi : Int) (w : World) : Calls Try.prog 10 #[.int .i64 r, .int .i64 lo, .int .i64 hi] w fun e w' => e = .returned (.int .i64 (limited r lo hi)) ∧ w = w' := by
  have ha := fun w => within_any r 0 4080 w
  have hb := fun w => within_any lo 2 64 w
  have hc := fun w => within_any hi 2 64 w
  obtain ⟨p, p'⟩ := win_in (n := r) (show (0 : Int) ≤ 4080 by decide)
  obtain ⟨q, q'⟩ := win_in (n := lo) (show (2 : Int) ≤ 64 by decide)
  obtain ⟨o, o'⟩ := win_in (n := hi) (show (2 : Int) ≤ 64 by decide)
  unfold limited
  generalize win r 0 4080 = x at *
  generalize win lo 2 64 = y at *
  generalize win hi 2 64 = z at *
  go_enter Try.func10, Try.ntmps10
  go_wp2_with fail
  refine (ha _).mono ?_
  rintro e w1 ⟨rfl, rfl⟩
  go_wp2_with fail
  refine (hb _).mono ?_
  rintro e w1 ⟨rfl, rfl⟩
  go_wp2_with fail
  refine (hc _).mono ?_
  rintro e w1 ⟨rfl, rfl⟩
  go_wp2
  go_ret
  exact ⟨rfl, rfl⟩
set_option maxHeartbeats 1000000 in
theorem reflimit_any (r lo hi : Int) (w : World) : Calls Try.prog 11 #[.int .i64 r, .int .i64 lo, .int .i64 hi] w fun e w' => e = .returned (.int .i64 (limited r lo hi)) ∧ w = w' := by
  have ha := fun w => refwithin_any r 0 4080 (by decide) w
  have hb := fun w => refwithin_any lo 2 64 (by decide) w
  have hc := fun w => refwithin_any hi 2 64 (by decide) w
  obtain ⟨p, p'⟩ := win_in (n := r) (show (0 : Int) ≤ 4080 by decide)
  obtain ⟨q, q'⟩ := win_in (n := lo) (show (2 : Int) ≤ 64 by decide)
  obtain ⟨o, o'⟩ := win_in (n := hi) (show (2 : Int) ≤ 64 by decide)
  unfold limited
  generalize win r 0 4080 = x at *
  generalize win lo 2 64 = y at *
  generalize win hi 2 64 = z at *
  by_cases h1 : z < y
  · by_cases h2 : y < y + x / 16
    · have HW := Lib.hid (show y = min (y + x / 16) (max y z) by omega)
      go_enter Try.func11, Try.ntmps11
      go_wp2_with fail
      refine (hb _).mono ?_
      rintro e w1 ⟨rfl, rfl⟩
      go_wp2_with fail
      refine (hc _).mono ?_
      rintro e w1 ⟨rfl, rfl⟩
      go_wp2_with fail
      refine (ha _).mono ?_
      rintro e w1 ⟨rfl, rfl⟩
      go_wp2
      go_ret
      exact ⟨ret_i64 HW.out, rfl⟩
    · have HW := Lib.hid (show y + x / 16 = min (y + x / 16) (max y z) by omega)
      go_enter Try.func11, Try.ntmps11
      go_wp2_with fail
      refine (hb _).mono ?_
      rintro e w1 ⟨rfl, rfl⟩
      go_wp2_with fail
      refine (hc _).mono ?_
      rintro e w1 ⟨rfl, rfl⟩
      go_wp2_with fail
      refine (ha _).mono ?_
      rintro e w1 ⟨rfl, rfl⟩
      go_wp2
      go_ret
      exact ⟨ret_i64 HW.out, rfl⟩
  · by_cases h2 : z < y + x / 16
    · have HW := Lib.hid (show z = min (y + x / 16) (max y z) by omega)
      go_enter Try.func11, Try.ntmps11
      go_wp2_with fail
      refine (hb _).mono ?_
      rintro e w1 ⟨rfl, rfl⟩
      go_wp2_with fail
      refine (hc _).mono ?_
      rintro e w1 ⟨rfl, rfl⟩
      go_wp2_with fail
      refine (ha _).mono ?_
      rintro e w1 ⟨rfl, rfl⟩
      go_wp2
      go_ret
      exact ⟨ret_i64 HW.out, rfl⟩
    · have HW := Lib.hid (show y + x / 16 = min (y + x / 16) (max y z) by omega)
      go_enter Try.func11, Try.ntmps11
      go_wp2_with fail
      refine (hb _).mono ?_
      rintro e w1 ⟨rfl, rfl⟩
      go_wp2_with fail
      refine (hc _).mono ?_
      rintro e w1 ⟨rfl, rfl⟩
      go_wp2_with fail
      refine (ha _).mono ?_
      rintro e w1 ⟨rfl, rfl⟩
      go_wp2
      go_ret
      exact ⟨ret_i64 HW.out, rfl⟩
theorem splits_any (k l : Int) (w : World) : Calls Try.prog 12 #[.int .i64 k, .int .i64 l] w fun e w' => e = .returned (.bool (decide (l < k))) ∧ w = w' := by
  go_enter Try.func12, Try.ntmps12
  go_wp2
  go_ret
  exact ⟨rfl, rfl⟩
theorem joins_any (a b l : Int) (w : World) : Calls Try.prog 13 #[.int .i64 a, .int .i64 b, .int .i64 l] w fun e w' => e = .returned (.bool (joined a b l)) ∧ w = w' := by
  have ha := fun w => within_any a 0 1073741824 w
  have hb := fun w => within_any b 0 1073741824 w
  obtain ⟨p, p'⟩ := win_in (n := a) (show (0 : Int) ≤ 1073741824 by decide)
  obtain ⟨q, q'⟩ := win_in (n := b) (show (0 : Int) ≤ 1073741824 by decide)
  unfold joined
  generalize win a 0 1073741824 = x at *
  generalize win b 0 1073741824 = y at *
  go_enter Try.func13, Try.ntmps13
  go_wp2_with fail
  refine (ha _).mono ?_
  rintro e w1 ⟨rfl, rfl⟩
  go_wp2_with fail
  refine (hb _).mono ?_
  rintro e w1 ⟨rfl, rfl⟩
  go_wp2
  go_ret
  exact ⟨rfl, rfl⟩
theorem refjoins_any (a b l : Int) (w : World) : Calls Try.prog 14 #[.int .i64 a, .int .i64 b, .int .i64 l] w fun e w' => e = .returned (.bool (joined a b l)) ∧ w = w' := by
  have ha := fun w => refwithin_any a 0 1073741824 (by decide) w
  have hb := fun w => refwithin_any b 0 1073741824 (by decide) w
  obtain ⟨p, p'⟩ := win_in (n := a) (show (0 : Int) ≤ 1073741824 by decide)
  obtain ⟨q, q'⟩ := win_in (n := b) (show (0 : Int) ≤ 1073741824 by decide)
  unfold joined
  generalize win a 0 1073741824 = x at *
  generalize win b 0 1073741824 = y at *
  have HW := Lib.hid (show decide (2 * x + 2 * y ≤ l) = decide (2 * (x + y) ≤ l) by rw [show 2 * x + 2 * y = 2 * (x + y) by omega])
  go_enter Try.func14, Try.ntmps14
  go_wp2_with fail
  refine (ha _).mono ?_
  rintro e w1 ⟨rfl, rfl⟩
  go_wp2_with fail
  refine (hb _).mono ?_
  rintro e w1 ⟨rfl, rfl⟩
  go_wp2
  go_ret
  exact ⟨ret_bool HW.out, rfl⟩
theorem awake_any (w : World) : Calls Try.prog 7 #[] w fun e w' => e = .returned (.bool true) ∧ w = w' := by
  have ha := fun w => rate_any 0 1 w
  have hb := fun w => limit_any 32 4 64 w
  rw [show rated 0 1 = 4 by decide] at ha
  rw [show limited 32 4 64 = 6 by decide] at hb
  go_enter Try.func7, Try.ntmps7
  go_wp2_with fail
  refine (ha _).mono ?_
  rintro e w1 ⟨rfl, rfl⟩
  go_wp2_with fail
  refine (hb _).mono ?_
  rintro e w1 ⟨rfl, rfl⟩
  go_wp2
  go_ret
  exact ⟨rfl, rfl⟩
end Go.Proofs.Ytelibdiaihhfeaa
