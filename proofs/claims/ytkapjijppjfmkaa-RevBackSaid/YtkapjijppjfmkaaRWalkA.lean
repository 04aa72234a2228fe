/- What within, Rate, Limit, Splits, Joins of both answer of any numbers. Conditions: numbers of 64 bits where the code subtracts. -/
import Derived.Test.YtkapjijppjfmkaaProg
import Derived.WalkKit
import Derived.Handy
import Derived.Below
import Derived.Lib.Hide
import Derived.Lib.MinMaxS
import Derived.WalkSpells
import Derived.WalkLawsBesides
import Derived.KernelRfl
namespace Go.Proofs.Ytkapjijppjfmkaa
open Go.RowKit Go.Op
set_option maxRecDepth 100000

def win (n lo hi : Int) : Int := min (max n lo) hi
def rated (r n : Int) : Int := win r 0 4080 + (16 * win n 0 255 - win r 0 4080).tdiv 4
theorem ret_i64R {a b : Int} (h : a = b) : Ending.returned (.int .i64 a) = .returned (.int .i64 b) := by rw [h]
theorem ret_boolR {a b : Bool} (h : a = b) : Ending.returned (.bool a) = .returned (.bool b) := by rw [h]

theorem within_any (n lo hi : Int) (w : World) : Calls Try.prog 59 #[.int .i64 n, .int .i64 lo, .int .i64 hi] w fun e w' => e = .returned (.int .i64 (win n lo hi)) ∧ w = w' := by
  go_enter Try.func59, Try.ntmps59
  go_wp2
  go_ret
  exact ⟨rfl, rfl⟩
theorem win_in {n lo hi : Int} (h : lo ≤ hi) : lo ≤ win n lo hi ∧ win n lo hi ≤ hi := by unfold win; omega
theorem refwithin_any (n lo hi : Int) (h : lo ≤ hi) (w : World) : Calls Try.prog 60 #[.int .i64 n, .int .i64 lo, .int .i64 hi] w fun e w' => e = .returned (.int .i64 (win n lo hi)) ∧ w = w' := by
  by_cases h1 : n < lo
  · have e : win n lo hi = lo := by unfold win; omega
    rw [e]
    go_enter Try.func60, Try.ntmps60
    go_wp2
    go_ret
    exact ⟨rfl, rfl⟩
  · by_cases h2 : hi < n
    · have e : win n lo hi = hi := by unfold win; omega
      rw [e]
      go_enter Try.func60, Try.ntmps60
      go_wp2
      go_ret
      exact ⟨rfl, rfl⟩
    · have e : win n lo hi = n := by unfold win; omega
      rw [e]
      go_enter Try.func60, Try.ntmps60
      go_wp2
      go_ret
      exact ⟨rfl, rfl⟩
theorem quarter (z : Int) : z.tdiv 4 = if 0 ≤ z then z / 4 else -((-z) / 4) := by
  split
  · exact Int.tdiv_eq_ediv_of_nonneg (by assumption)
  · have h : z = -(-z) := by omega
    rw [h, Int.neg_tdiv, Int.tdiv_eq_ediv_of_nonneg (by omega)]
    omega
theorem rated_in (r n : Int) : 0 ≤ rated r n ∧ rated r n ≤ 4080 := by
  have h1 := win_in (n := r) (show (0 : Int) ≤ 4080 by decide)
  have h2 := win_in (n := n) (show (0 : Int) ≤ 255 by decide)
  unfold rated
  rw [quarter]
  split <;> omega
theorem rate_any (r n : Int) (w : World) : Calls Try.prog 42 #[.int .i64 r, .int .i64 n] w fun e w' => e = .returned (.int .i64 (rated r n)) ∧ w = w' := by
  have ha := fun w => within_any r 0 4080 w
  have hb := fun w => within_any n 0 255 w
  obtain ⟨p, p'⟩ := win_in (n := r) (show (0 : Int) ≤ 4080 by decide)
  obtain ⟨q, q'⟩ := win_in (n := n) (show (0 : Int) ≤ 255 by decide)
  have hr := rated_in r n
  unfold rated at hr ⊢
  generalize win r 0 4080 = x at *
  generalize win n 0 255 = y at *
  have HW := Lib.hid (IntWalk.wrap64_in (x + (16 * y - x).tdiv 4) ⟨by omega, by omega⟩)
  clear hr
  go_enter Try.func42, Try.ntmps42
  go_wp2_with fail
  refine (ha _).mono ?_
  rintro e w1 ⟨rfl, rfl⟩
  go_wp2_with fail
  refine (hb _).mono ?_
  rintro e w1 ⟨rfl, rfl⟩
  go_wp2
  go_ret
  exact ⟨ret_i64R HW.out, rfl⟩
set_option maxHeartbeats 1000000 in
theorem refrate_any (r n : Int) (w : World) : Calls Try.prog 46 #[.int .i64 r, .int .i64 n] w fun e w' => e = .returned (.int .i64 (rated r n)) ∧ w = w' := by
  have ha := fun w => refwithin_any r 0 4080 (by decide) w
  have hb := fun w => refwithin_any n 0 255 (by decide) w
  obtain ⟨p, p'⟩ := win_in (n := r) (show (0 : Int) ≤ 4080 by decide)
  obtain ⟨q, q'⟩ := win_in (n := n) (show (0 : Int) ≤ 255 by decide)
  unfold rated
  generalize win r 0 4080 = x at *
  generalize win n 0 255 = y at *
  by_cases hc : x ≤ 16 * y
  · have HW := Lib.hid (show x + (16 * y - x) / 4 = x + (16 * y - x).tdiv 4 by rw [quarter, if_pos (by omega)])
    go_enter Try.func46, Try.ntmps46
    go_wp2_with fail
    refine (ha _).mono ?_
    rintro e w1 ⟨rfl, rfl⟩
    go_wp2_with fail
    refine (hb _).mono ?_
    rintro e w1 ⟨rfl, rfl⟩
    go_wp2
    go_ret
    exact ⟨ret_i64R HW.out, rfl⟩
  · have HW := Lib.hid (show x - (x - 16 * y) / 4 = x + (16 * y - x).tdiv 4 by rw [quarter, if_neg (by omega)]; omega)
    have hd : 16 * y < x := by omega
    go_enter Try.func46, Try.ntmps46
    go_wp2_with fail
    refine (ha _).mono ?_
    rintro e w1 ⟨rfl, rfl⟩
    go_wp2_with fail
    refine (hb _).mono ?_
    rintro e w1 ⟨rfl, rfl⟩
    go_wp2
    go_ret
    exact ⟨ret_i64R HW.out, rfl⟩
end Go.Proofs.Ytkapjijppjfmkaa
