/- What Word, To, Stamp of tag and of the reference answer of any numbers; that the law is awake. Condition: of the reference's Stamp: the number is less than 2 to the 63. -/
import Derived.Test.YtelbmagfnmkeaaaWalkA
namespace Go.Proofs.Ytelbmagfnmkeaaa
open Go.RowKit Go.Op
set_option maxRecDepth 100000

theorem isH_in {h : Int} (hi : isH h = true) : 0 < h ∧ h < 1073741824 ∧ 0 < h % 65536 := of_decide_eq_true hi
theorem word_any (h v : Int) (w : World) : Calls Try.prog 14 #[.int .i64 h, .int .i64 v] w fun e w' => e = .returned (.int .i64 (word h v)) ∧ w = w' := by
  by_cases h0 : h = 0
  · subst h0
    by_cases h1 : v < 0
    · have e : word 0 v = -1 := if_neg (by omega)
      rw [e]
      go_enter Try.func14, Try.ntmps14
      go_wp2
      go_ret
      exact ⟨rfl, rfl⟩
    · by_cases h2 : 1073741824 < v
      · have e : word 0 v = -1 := if_neg (by omega)
        rw [e]
        go_enter Try.func14, Try.ntmps14
        go_wp2
        go_ret
        exact ⟨rfl, rfl⟩
      · have e : word 0 v = v * 2147483648 := (if_pos ⟨Or.inl rfl, by omega, by omega⟩ : word 0 v = v * 2147483648 + 0).trans (Int.add_zero _)
        have HO := Lib.hid ((or31 v 0 (by omega) (by omega) (by omega) (by omega)).trans (Int.add_zero _))
        rw [e]
        go_enter Try.func14, Try.ntmps14
        go_wp2
        go_ret
        exact ⟨ret_i64 HO.out, rfl⟩
  · have hr := fun w => right_any h w
    cases hi : isH h
    · have e : word h v = -1 := if_neg (by rw [hi]; simp [h0])
      rw [hi] at hr
      rw [e]
      go_enter Try.func14, Try.ntmps14
      go_wp2_with fail
      refine (hr _).mono ?_
      rintro e w1 ⟨rfl, rfl⟩
      go_wp2
      go_ret
      exact ⟨rfl, rfl⟩
    · rw [hi] at hr
      obtain ⟨i1, i2, i3⟩ := isH_in hi
      by_cases h1 : v < 0
      · have e : word h v = -1 := if_neg (by omega)
        rw [e]
        go_enter Try.func14, Try.ntmps14
        go_wp2_with fail
        refine (hr _).mono ?_
        rintro e w1 ⟨rfl, rfl⟩
        go_wp2
        go_ret
        exact ⟨rfl, rfl⟩
      · by_cases h2 : 1073741824 < v
        · have e : word h v = -1 := if_neg (by omega)
          rw [e]
          go_enter Try.func14, Try.ntmps14
          go_wp2_with fail
          refine (hr _).mono ?_
          rintro e w1 ⟨rfl, rfl⟩
          go_wp2
          go_ret
          exact ⟨rfl, rfl⟩
        · have e : word h v = v * 2147483648 + h := if_pos ⟨Or.inr hi, by omega, by omega⟩
          have HO := Lib.hid (or31 v h (by omega) (by omega) (by omega) (by omega))
          rw [e]
          go_enter Try.func14, Try.ntmps14
          go_wp2_with fail
          refine (hr _).mono ?_
          rintro e w1 ⟨rfl, rfl⟩
          go_wp2
          go_ret
          exact ⟨ret_i64 HO.out, rfl⟩
theorem refword_any (h v : Int) (w : World) : Calls Try.prog 15 #[.int .i64 h, .int .i64 v] w fun e w' => e = .returned (.int .i64 (word h v)) ∧ w = w' := by
  by_cases h0 : h = 0
  · subst h0
    by_cases h1 : v < 0
    · have e : word 0 v = -1 := if_neg (by omega)
      rw [e]
      go_enter Try.func15, Try.ntmps15
      go_wp2
      go_ret
      exact ⟨rfl, rfl⟩
    · by_cases h2 : 1073741824 < v
      · have e : word 0 v = -1 := if_neg (by omega)
        rw [e]
        go_enter Try.func15, Try.ntmps15
        go_wp2
        go_ret
        exact ⟨rfl, rfl⟩
      · have e : word 0 v = v * 2147483648 + 0 := if_pos ⟨Or.inl rfl, by omega, by omega⟩
        rw [e, Int.add_zero]
        go_enter Try.func15, Try.ntmps15
        go_wp2
        go_ret
        exact ⟨rfl, rfl⟩
  · have hr := fun w => refright_any h w
    cases hi : isH h
    · have e : word h v = -1 := if_neg (by rw [hi]; simp [h0])
      rw [hi] at hr
      rw [e]
      go_enter Try.func15, Try.ntmps15
      go_wp2_with fail
      refine (hr _).mono ?_
      rintro e w1 ⟨rfl, rfl⟩
      go_wp2
      go_ret
      exact ⟨rfl, rfl⟩
    · rw [hi] at hr
      obtain ⟨i1, i2, i3⟩ := isH_in hi
      by_cases h1 : v < 0
      · have e : word h v = -1 := if_neg (by omega)
        rw [e]
        go_enter Try.func15, Try.ntmps15
        go_wp2_with fail
        refine (hr _).mono ?_
        rintro e w1 ⟨rfl, rfl⟩
        go_wp2
        go_ret
        exact ⟨rfl, rfl⟩
      · by_cases h2 : 1073741824 < v
        · have e : word h v = -1 := if_neg (by omega)
          rw [e]
          go_enter Try.func15, Try.ntmps15
          go_wp2_with fail
          refine (hr _).mono ?_
          rintro e w1 ⟨rfl, rfl⟩
          go_wp2
          go_ret
          exact ⟨rfl, rfl⟩
        · have e : word h v = v * 2147483648 + h := if_pos ⟨Or.inr hi, by omega, by omega⟩
          rw [e]
          go_enter Try.func15, Try.ntmps15
          go_wp2_with fail
          refine (hr _).mono ?_
          rintro e w1 ⟨rfl, rfl⟩
          go_wp2
          go_ret
          exact ⟨rfl, rfl⟩
theorem to_any (x : Int) (w : World) : Calls Try.prog 18 #[.int .i64 x] w fun e w' => e = .returned (.int .i64 (to x)) ∧ w = w' := by
  have HA := Lib.hid (and31 x)
  by_cases h1 : x < 0
  · have e : to x = 0 := if_neg (by omega)
    rw [e]
    go_enter Try.func18, Try.ntmps18
    go_wp2
    go_ret
    exact ⟨rfl, rfl⟩
  · have hr := fun w => right_any (x % 2147483648) w
    cases hi : isH (x % 2147483648)
    · have e : to x = 0 := if_neg (by rw [hi]; simp)
      rw [hi] at hr
      rw [e]
      go_enter Try.func18, Try.ntmps18
      go_wp2_with (rw [HA.out])
      refine (hr _).mono ?_
      rintro e w1 ⟨rfl, rfl⟩
      go_wp2
      go_ret
      exact ⟨rfl, rfl⟩
    · have e : to x = x % 2147483648 := if_pos ⟨by omega, hi⟩
      rw [hi] at hr
      rw [e]
      clear e
      go_enter Try.func18, Try.ntmps18
      go_wp2_with (rw [HA.out])
      refine (hr _).mono ?_
      rintro e w1 ⟨rfl, rfl⟩
      go_wp2
      go_ret
      exact ⟨rfl, rfl⟩
theorem refto_any (x : Int) (w : World) : Calls Try.prog 19 #[.int .i64 x] w fun e w' => e = .returned (.int .i64 (to x)) ∧ w = w' := by
  by_cases h1 : x < 0
  · have e : to x = 0 := if_neg (by omega)
    rw [e]
    go_enter Try.func19, Try.ntmps19
    go_wp2
    go_ret
    exact ⟨rfl, rfl⟩
  · have hr := fun w => refright_any (x % 2147483648) w
    cases hi : isH (x % 2147483648)
    · have e : to x = 0 := if_neg (by rw [hi]; simp)
      rw [hi] at hr
      rw [e]
      go_enter Try.func19, Try.ntmps19
      go_wp2_with fail
      refine (hr _).mono ?_
      rintro e w1 ⟨rfl, rfl⟩
      go_wp2
      go_ret
      exact ⟨rfl, rfl⟩
    · have e : to x = x % 2147483648 := if_pos ⟨by omega, hi⟩
      rw [hi] at hr
      rw [e]
      clear e
      go_enter Try.func19, Try.ntmps19
      go_wp2_with fail
      refine (hr _).mono ?_
      rintro e w1 ⟨rfl, rfl⟩
      go_wp2
      go_ret
      exact ⟨rfl, rfl⟩
theorem stamp_any (x : Int) (w : World) : Calls Try.prog 16 #[.int .i64 x] w fun e w' => e = .returned (.int .i64 (stamp x)) ∧ w = w' := by
  have HA := Lib.hid (and31 x)
  have ht := fun w => to_any x w
  by_cases h1 : x / 2147483648 < 0
  · have e : stamp x = -1 := if_neg (by omega)
    rw [e]
    go_enter Try.func16, Try.ntmps16
    go_wp2
    go_ret
    exact ⟨rfl, rfl⟩
  · by_cases h2 : 1073741824 < x / 2147483648
    · have e : stamp x = -1 := if_neg (by omega)
      rw [e]
      go_enter Try.func16, Try.ntmps16
      go_wp2
      go_ret
      exact ⟨rfl, rfl⟩
    · by_cases h3 : x % 2147483648 = to x
      · have e : stamp x = x / 2147483648 := if_pos ⟨by omega, by
          by_cases h4 : isH (x % 2147483648) = true
          · exact Or.inr h4
          · left
            rw [h3]
            exact if_neg (fun a => h4 a.2)⟩
        rw [← h3] at ht
        rw [e]
        clear e h3
        go_enter Try.func16, Try.ntmps16
        go_wp2_with (rw [HA.out])
        refine (ht _).mono ?_
        rintro e w1 ⟨rfl, rfl⟩
        go_wp2_with (rw [HA.out])
        go_ret
        exact ⟨rfl, rfl⟩
      · have h4 : ¬ isH (x % 2147483648) = true := fun a => h3 (show x % 2147483648 = to x from (if_pos (show 0 ≤ x ∧ isH (x % 2147483648) = true from ⟨by omega, a⟩)).symm)
        have e0 : to x = 0 := if_neg (fun a => h4 a.2)
        rw [e0] at h3 ht
        have e : stamp x = -1 := if_neg (by
          rintro ⟨_, a | a⟩
          · exact h3 a
          · exact h4 a)
        rw [e]
        clear e e0 h4
        go_enter Try.func16, Try.ntmps16
        go_wp2_with (rw [HA.out])
        refine (ht _).mono ?_
        rintro e w1 ⟨rfl, rfl⟩
        go_wp2_with (rw [HA.out])
        go_ret
        exact ⟨rfl, rfl⟩
theorem refstamp_any (x : Int) (hx : x < 9223372036854775808) (w : World) : Calls Try.prog 17 #[.int .i64 x] w fun e w' => e = .returned (.int .i64 (stamp x)) ∧ w = w' := by
  have hr := fun w => refright_any (x % 2147483648) w
  by_cases h1 : x < 0
  · have e : stamp x = -1 := if_neg (by omega)
    rw [e]
    go_enter Try.func17, Try.ntmps17
    go_wp2
    go_ret
    exact ⟨rfl, rfl⟩
  · by_cases h2 : 1073741824 < x / 2147483648
    · have e : stamp x = -1 := if_neg (by omega)
      have HD := Lib.hid (show wrap64 (x.tdiv 2147483648) = x / 2147483648 by rw [Int.tdiv_eq_ediv_of_nonneg (by omega)]; exact IntWalk.wrap64_in _ ⟨by omega, by omega⟩)
      rw [e]
      go_enter Try.func17, Try.ntmps17
      go_wp2_with (rw [HD.out])
      go_ret
      exact ⟨rfl, rfl⟩
    · by_cases h3 : x % 2147483648 = 0
      · have e : stamp x = x / 2147483648 := if_pos ⟨by omega, Or.inl h3⟩
        rw [e]
        clear e
        go_enter Try.func17, Try.ntmps17
        go_wp2
        go_ret
        exact ⟨rfl, rfl⟩
      · cases hi : isH (x % 2147483648)
        · have e : stamp x = -1 := if_neg (by rw [hi]; simp [h3])
          rw [hi] at hr
          rw [e]
          clear e
          go_enter Try.func17, Try.ntmps17
          go_wp2_with fail
          refine (hr _).mono ?_
          rintro e w1 ⟨rfl, rfl⟩
          go_wp2
          go_ret
          exact ⟨rfl, rfl⟩
        · have e : stamp x = x / 2147483648 := if_pos ⟨by omega, Or.inr hi⟩
          rw [hi] at hr
          rw [e]
          clear e
          go_enter Try.func17, Try.ntmps17
          go_wp2_with fail
          refine (hr _).mono ?_
          rintro e w1 ⟨rfl, rfl⟩
          go_wp2
          go_ret
          exact ⟨rfl, rfl⟩
theorem awake_any (w : World) : Calls Try.prog 7 #[] w fun e w' => e = .returned (.bool true) ∧ w = w' := by
  have ha := fun w => handle_any 0 0 w
  have hb := fun w => word_any 1 2 w
  rw [show hand 0 0 = 1 by decide] at ha
  rw [show word 1 2 = 4294967297 by decide] at hb
  go_enter Try.func7, Try.ntmps7
  go_wp2_with fail
  refine (ha _).mono ?_
  rintro e w1 ⟨rfl, rfl⟩
  go_wp2_with fail
  refine (hb _).mono ?_
  rintro e w1 ⟨rfl, rfl⟩
  go_wp2
  go_ret
  exact ⟨rfl, rfl⟩
end Go.Proofs.Ytelbmagfnmkeaaa
