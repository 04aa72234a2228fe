/- PacePlays, PaceBounds, PaceSettles, PaceApart answer true of any numbers. No condition but that a byte is less than 256 and a number of 16 bits less than 65536. -/
import Derived.Test.YtelibdiaihhfeaaWalkA
namespace Go.Proofs.Ytelibdiaihhfeaa
open Go.RowKit Go.Op
set_option maxRecDepth 100000

theorem gt_swap (r n : Int) : decide (r > n) = decide (n < r) := rfl
set_option maxHeartbeats 1000000 in
theorem plays_any (r n lo hi : Int) (w : World) : Calls Try.prog 3 #[.int .i64 r, .int .i64 n, .int .i64 lo, .int .i64 hi] w fun e w' => e = .returned (.bool true) ∧ w = w' := by
  have ha := fun w => rate_any r n w
  have hb := fun w => refrate_any r n w
  have hc := fun w => limit_any r lo hi w
  have hd := fun w => reflimit_any r lo hi w
  have he := fun w => splits_any r n w
  have hf := fun w => joins_any r n lo w
  have hg := fun w => refjoins_any r n lo w
  generalize rated r n = x at *
  generalize limited r lo hi = y at *
  generalize joined r n lo = z at *
  by_cases hh : n < r
  · have q : decide (n < r) = true := decide_eq_true hh
    rw [q] at he
    go_enter Try.func3, Try.ntmps3
    go_wp2_with fail
    refine (awake_any _).mono ?_
    rintro e w1 ⟨rfl, rfl⟩
    go_wp2_with fail
    refine (ha _).mono ?_
    rintro e w1 ⟨rfl, rfl⟩
    go_wp2_with fail
    refine (hb _).mono ?_
    rintro e w1 ⟨rfl, rfl⟩
    go_wp2_with fail
    refine (hc _).mono ?_
    rintro e w1 ⟨rfl, rfl⟩
    go_wp2_with fail
    refine (hd _).mono ?_
    rintro e w1 ⟨rfl, rfl⟩
    go_wp2_with fail
    refine (he _).mono ?_
    rintro e w1 ⟨rfl, rfl⟩
    go_wp2_with fail
    refine (hf _).mono ?_
    rintro e w1 ⟨rfl, rfl⟩
    go_wp2_with fail
    refine (hg _).mono ?_
    rintro e w1 ⟨rfl, rfl⟩
    go_wp2
    go_ret
    exact ⟨ret_bool (by simp), rfl⟩
  · have q : decide (n < r) = false := decide_eq_false hh
    rw [q] at he
    go_enter Try.func3, Try.ntmps3
    go_wp2_with fail
    refine (awake_any _).mono ?_
    rintro e w1 ⟨rfl, rfl⟩
    go_wp2_with fail
    refine (ha _).mono ?_
    rintro e w1 ⟨rfl, rfl⟩
    go_wp2_with fail
    refine (hb _).mono ?_
    rintro e w1 ⟨rfl, rfl⟩
    go_wp2_with fail
    refine (hc _).mono ?_
    rintro e w1 ⟨rfl, rfl⟩
    go_wp2_with fail
    refine (hd _).mono ?_
    rintro e w1 ⟨rfl, rfl⟩
    go_wp2_with fail
    refine (he _).mono ?_
    rintro e w1 ⟨rfl, rfl⟩
    go_wp2_with fail
    refine (hf _).mono ?_
    rintro e w1 ⟨rfl, rfl⟩
    go_wp2_with fail
    refine (hg _).mono ?_
    rintro e w1 ⟨rfl, rfl⟩
    go_wp2
    go_ret
    exact ⟨ret_bool (by simp), rfl⟩

theorem win_mono {a b lo hi : Int} (h : a ≤ b) : win a lo hi ≤ win b lo hi := by unfold win; omega
theorem rated_mono {a b : Int} (n : Int) (h : a ≤ b) : rated a n ≤ rated b n := by
  have h1 := win_mono (lo := 0) (hi := 4080) h
  unfold rated
  rw [quarter, quarter]
  split <;> split <;> omega
theorem limited_mono {a b : Int} (lo hi : Int) (h : a ≤ b) : limited a lo hi ≤ limited b lo hi := by
  have h1 := win_mono (lo := 0) (hi := 4080) h
  unfold limited
  omega
theorem limited_in (r lo hi : Int) : 2 ≤ limited r lo hi ∧ limited r lo hi ≤ 64 := by
  have h1 := win_in (n := r) (show (0 : Int) ≤ 4080 by decide)
  have h2 := win_in (n := lo) (show (2 : Int) ≤ 64 by decide)
  have h3 := win_in (n := hi) (show (2 : Int) ≤ 64 by decide)
  unfold limited
  omega
set_option maxHeartbeats 1000000 in
theorem bounds_any (a b n lo hi : Int) (w : World) : Calls Try.prog 4 #[.int .i64 a, .int .i64 b, .int .i64 n, .int .i64 lo, .int .i64 hi] w fun e w' => e = .returned (.bool true) ∧ w = w' := by
  have ha := fun w => rate_any a n w
  have hb := fun w => rate_any b n w
  have hc := fun w => limit_any a lo hi w
  have hd := fun w => limit_any b lo hi w
  obtain ⟨p1, p2⟩ := rated_in a n
  obtain ⟨p3, p4⟩ := limited_in a lo hi
  by_cases hh : b < a
  · generalize rated a n = x at *
    generalize rated b n = y at *
    generalize limited a lo hi = k at *
    generalize limited b lo hi = l at *
    have q1 : decide (0 ≤ x) = true := decide_eq_true p1
    have q2 : decide (x ≤ 4080) = true := decide_eq_true p2
    have q3 : decide (2 ≤ k) = true := decide_eq_true p3
    have q4 : decide (k ≤ 64) = true := decide_eq_true p4
    have q5 : decide (b < a) = true := decide_eq_true hh
    go_enter Try.func4, Try.ntmps4
    go_wp2_with fail
    refine (ha _).mono ?_
    rintro e w1 ⟨rfl, rfl⟩
    go_wp2_with fail
    refine (hb _).mono ?_
    rintro e w1 ⟨rfl, rfl⟩
    go_wp2_with fail
    refine (hc _).mono ?_
    rintro e w1 ⟨rfl, rfl⟩
    go_wp2_with fail
    refine (hd _).mono ?_
    rintro e w1 ⟨rfl, rfl⟩
    go_wp2_with fail
    refine (awake_any _).mono ?_
    rintro e w1 ⟨rfl, rfl⟩
    go_wp2
    go_ret
    exact ⟨rfl, rfl⟩
  · have m1 := rated_mono (a := a) (b := b) n (by omega)
    have m2 := limited_mono (a := a) (b := b) lo hi (by omega)
    generalize rated a n = x at *
    generalize rated b n = y at *
    generalize limited a lo hi = k at *
    generalize limited b lo hi = l at *
    have q1 : decide (0 ≤ x) = true := decide_eq_true p1
    have q2 : decide (x ≤ 4080) = true := decide_eq_true p2
    have q3 : decide (2 ≤ k) = true := decide_eq_true p3
    have q4 : decide (k ≤ 64) = true := decide_eq_true p4
    have q5 : decide (b < a) = false := decide_eq_false hh
    have q6 : decide (x ≤ y) = true := decide_eq_true m1
    have q7 : decide (k ≤ l) = true := decide_eq_true m2
    go_enter Try.func4, Try.ntmps4
    go_wp2_with fail
    refine (ha _).mono ?_
    rintro e w1 ⟨rfl, rfl⟩
    go_wp2_with fail
    refine (hb _).mono ?_
    rintro e w1 ⟨rfl, rfl⟩
    go_wp2_with fail
    refine (hc _).mono ?_
    rintro e w1 ⟨rfl, rfl⟩
    go_wp2_with fail
    refine (hd _).mono ?_
    rintro e w1 ⟨rfl, rfl⟩
    go_wp2_with fail
    refine (awake_any _).mono ?_
    rintro e w1 ⟨rfl, rfl⟩
    go_wp2
    go_ret
    exact ⟨rfl, rfl⟩

theorem joined_split {a b l : Int} (ha : 0 ≤ a) (hb : 0 ≤ b) (ha' : a < 65536) (hb' : b < 65536) (h : joined a b l = true) : ¬ l < a + b ∧ joined b a l = true := by
  have h1 : win a 0 1073741824 = a := by unfold win; omega
  have h2 : win b 0 1073741824 = b := by unfold win; omega
  have h3 : decide (2 * (a + b) ≤ l) = true := by
    have h3 := h
    unfold joined at h3
    rwa [h1, h2] at h3
  refine ⟨by have := of_decide_eq_true h3; omega, ?_⟩
  unfold joined
  rw [h1, h2, Int.add_comm b a]
  exact h3
set_option maxHeartbeats 1000000 in
theorem apart_any (a b : Nat) (ha0 : a < 65536) (hb0 : b < 65536) (l : Int) (w : World) : Calls Try.prog 6 #[.int .u16 (a : Int), .int .u16 (b : Int), .int .i64 l] w fun e w' => e = .returned (.bool true) ∧ w = w' := by
  have ha := fun w => joins_any a b l w
  have hb := fun w => joins_any b a l w
  have hc := fun w => splits_any ((a : Int) + (b : Int)) l w
  cases hj : joined a b l
  · rw [hj] at ha
    go_enter Try.func6, Try.ntmps6
    go_wp2_with fail
    refine (awake_any _).mono ?_
    rintro e w1 ⟨rfl, rfl⟩
    go_wp2_with fail
    refine (ha _).mono ?_
    rintro e w1 ⟨rfl, rfl⟩
    go_wp2
    go_ret
    exact ⟨rfl, rfl⟩
  · obtain ⟨s1, s2⟩ := joined_split (a := a) (b := b) (l := l) (by omega) (by omega) (by omega) (by omega) hj
    rw [hj] at ha
    rw [s2] at hb
    rw [decide_eq_false s1] at hc
    clear s1 s2 hj
    go_enter Try.func6, Try.ntmps6
    go_wp2_with fail
    refine (awake_any _).mono ?_
    rintro e w1 ⟨rfl, rfl⟩
    go_wp2_with fail
    refine (ha _).mono ?_
    rintro e w1 ⟨rfl, rfl⟩
    go_wp2_with fail
    refine (hc _).mono ?_
    rintro e w1 ⟨rfl, rfl⟩
    go_wp2_with fail
    refine (hb _).mono ?_
    rintro e w1 ⟨rfl, rfl⟩
    go_wp2
    go_ret
    exact ⟨rfl, rfl⟩

/-- the rate behind k changes of n entries each -/
def went (r n : Int) : Nat → Int
  | 0 => r
  | k + 1 => rated (went r n k) n
/-- how far from 16 times as many, at most -/
def far : Nat → Int
  | 0 => 4080
  | k + 1 => far k - far k / 4
theorem win_same {x : Int} (h : 0 ≤ x ∧ x ≤ 4080) : win x 0 4080 = x := by unfold win; omega
theorem went_far (r n : Int) (hn : 0 ≤ n ∧ n ≤ 255) : ∀ k, 16 * n - win (went r n k) 0 4080 ≤ far k ∧ win (went r n k) 0 4080 - 16 * n ≤ far k
  | 0 => by
    have h := win_in (n := r) (show (0 : Int) ≤ 4080 by decide)
    change 16 * n - win r 0 4080 ≤ 4080 ∧ win r 0 4080 - 16 * n ≤ 4080
    omega
  | k + 1 => by
    have h := went_far r n hn k
    have e : went r n (k + 1) = rated (went r n k) n := rfl
    have f : far (k + 1) = far k - far k / 4 := rfl
    rw [e, f, win_same (rated_in _ _)]
    unfold rated
    have hw : win n 0 255 = n := by unfold win; omega
    rw [hw, quarter]
    split <;> omega
theorem went_end (r n : Int) (hn : 0 ≤ n ∧ n ≤ 255) : -3 ≤ went r n 40 - 16 * n ∧ went r n 40 - 16 * n ≤ 3 := by
  have h := went_far r n hn 40
  have e : win (went r n 40) 0 4080 = went r n 40 := win_same (rated_in _ _)
  have f : far 40 = 3 := by decide
  rw [e, f] at h
  omega
theorem went_in (r n : Int) : 0 ≤ went r n 40 ∧ went r n 40 ≤ 4080 := rated_in (went r n 39) n
end Go.Proofs.Ytelibdiaihhfeaa
