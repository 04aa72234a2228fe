/- TagHandles, TagWords, TagBack, TagUnlike answer true of any numbers; what the frames take. Conditions: numbers are of their kinds' bits. -/
import Derived.Test.YtelbmagfnmkeaaaWalkB
namespace Go.Proofs.Ytelbmagfnmkeaaa
open Go.RowKit Go.Op
set_option maxRecDepth 100000

set_option maxHeartbeats 1000000 in
theorem handles_any (p g h : Int) (w : World) : Calls Try.prog 3 #[.int .i64 p, .int .i64 g, .int .i64 h] w fun e w' => e = .returned (.bool true) ∧ w = w' := by
  have ha := fun w => handle_any p g w
  have hb := fun w => refhandle_any p g w
  have hc := fun w => right_any h w
  have hd := fun w => refright_any h w
  have he := fun w => place_any h w
  have hf := fun w => gen_any h w
  generalize hand p g = x at *
  cases hi : isH h
  · rw [hi] at hc hd
    rw [show placeOf h = -1 from if_neg (by rw [hi]; decide)] at he
    rw [show genOf h = -1 from if_neg (by rw [hi]; decide)] at hf
    go_enter Try.func3, Try.ntmps3
    go_wp2_with fail
    refine (awake_any _).mono ?_
    rintro e w1 ⟨rfl, rfl⟩
    go_wp2_with fail
    refine (ha _).mono ?_
    rintro e w1 ⟨rfl, rfl⟩
    go_wp2_with fail
    refine (hb _).mono ?_
    rintro e w1 ⟨rfl, rfl⟩
    go_wp2_with fail
    refine (hc _).mono ?_
    rintro e w1 ⟨rfl, rfl⟩
    go_wp2_with fail
    refine (hd _).mono ?_
    rintro e w1 ⟨rfl, rfl⟩
    go_wp2_with fail
    refine (hd _).mono ?_
    rintro e w1 ⟨rfl, rfl⟩
    go_wp2_with fail
    refine (he _).mono ?_
    rintro e w1 ⟨rfl, rfl⟩
    go_wp2_with fail
    refine (hf _).mono ?_
    rintro e w1 ⟨rfl, rfl⟩
    go_wp2
    go_ret
    exact ⟨rfl, rfl⟩
  · obtain ⟨i1, i2, i3⟩ := isH_in hi
    rw [hi] at hc hd
    rw [show placeOf h = h % 65536 - 1 from if_pos hi] at he
    rw [show genOf h = h / 65536 from if_pos hi] at hf
    go_enter Try.func3, Try.ntmps3
    go_wp2_with fail
    refine (awake_any _).mono ?_
    rintro e w1 ⟨rfl, rfl⟩
    go_wp2_with fail
    refine (ha _).mono ?_
    rintro e w1 ⟨rfl, rfl⟩
    go_wp2_with fail
    refine (hb _).mono ?_
    rintro e w1 ⟨rfl, rfl⟩
    go_wp2_with fail
    refine (hc _).mono ?_
    rintro e w1 ⟨rfl, rfl⟩
    go_wp2_with fail
    refine (hd _).mono ?_
    rintro e w1 ⟨rfl, rfl⟩
    go_wp2_with fail
    refine (hd _).mono ?_
    rintro e w1 ⟨rfl, rfl⟩
    go_wp2_with fail
    refine (he _).mono ?_
    rintro e w1 ⟨rfl, rfl⟩
    go_wp2_with fail
    refine (hf _).mono ?_
    rintro e w1 ⟨rfl, rfl⟩
    go_wp2
    go_ret
    exact ⟨rfl, rfl⟩
set_option maxHeartbeats 1000000 in
theorem words_any (h v x : Int) (hx : x < 9223372036854775808) (w : World) : Calls Try.prog 4 #[.int .i64 h, .int .i64 v, .int .i64 x] w fun e w' => e = .returned (.bool true) ∧ w = w' := by
  have ha := fun w => word_any h v w
  have hb := fun w => refword_any h v w
  have hc := fun w => stamp_any x w
  have hd := fun w => refstamp_any x hx w
  have he := fun w => to_any x w
  have hf := fun w => refto_any x w
  generalize word h v = a at *
  generalize stamp x = b at *
  generalize to x = c at *
  go_enter Try.func4, Try.ntmps4
  go_wp2_with fail
  refine (awake_any _).mono ?_
  rintro e w1 ⟨rfl, rfl⟩
  go_wp2_with fail
  refine (ha _).mono ?_
  rintro e w1 ⟨rfl, rfl⟩
  go_wp2_with fail
  refine (hb _).mono ?_
  rintro e w1 ⟨rfl, rfl⟩
  go_wp2_with fail
  refine (hc _).mono ?_
  rintro e w1 ⟨rfl, rfl⟩
  go_wp2_with fail
  refine (hd _).mono ?_
  rintro e w1 ⟨rfl, rfl⟩
  go_wp2_with fail
  refine (he _).mono ?_
  rintro e w1 ⟨rfl, rfl⟩
  go_wp2_with fail
  refine (hf _).mono ?_
  rintro e w1 ⟨rfl, rfl⟩
  go_wp2
  go_ret
  exact ⟨ret_bool (by simp), rfl⟩
theorem word_is {h v : Int} (hw : 0 ≤ word h v) : word h v = v * 2147483648 + h ∧ 0 ≤ h ∧ h < 1073741824 ∧ 0 ≤ v := by
  unfold word at hw ⊢
  split at hw
  · rename_i hc
    rw [if_pos hc]
    obtain ⟨a, b, c⟩ := hc
    rcases a with rfl | a
    · omega
    · have := isH_in a
      omega
  · omega
theorem word_inj {h g v u : Int} (a : 0 ≤ word h v) (b : 0 ≤ word g u) (e : word h v = word g u) : h = g ∧ v = u := by
  obtain ⟨a1, a2, a3, a4⟩ := word_is a
  obtain ⟨b1, b2, b3, b4⟩ := word_is b
  rw [a1, b1] at e
  omega
set_option maxHeartbeats 1000000 in
theorem unlike_any (h g v u : Int) (w : World) : Calls Try.prog 6 #[.int .i64 h, .int .i64 g, .int .i64 v, .int .i64 u] w fun e w' => e = .returned (.bool true) ∧ w = w' := by
  have ha := fun w => word_any h v w
  have hb := fun w => word_any g u w
  by_cases h1 : word h v < 0
  · generalize word h v = x at *
    generalize word g u = y at *
    go_enter Try.func6, Try.ntmps6
    go_wp2_with fail
    refine (ha _).mono ?_
    rintro e w1 ⟨rfl, rfl⟩
    go_wp2_with fail
    refine (hb _).mono ?_
    rintro e w1 ⟨rfl, rfl⟩
    go_wp2_with fail
    refine (awake_any _).mono ?_
    rintro e w1 ⟨rfl, rfl⟩
    go_wp2_with fail
    refine (awake_any _).mono ?_
    rintro e w1 ⟨rfl, rfl⟩
    go_wp2
    go_ret
    exact ⟨rfl, rfl⟩
  · by_cases h2 : word g u < 0
    · generalize word h v = x at *
      generalize word g u = y at *
      go_enter Try.func6, Try.ntmps6
      go_wp2_with fail
      refine (ha _).mono ?_
      rintro e w1 ⟨rfl, rfl⟩
      go_wp2_with fail
      refine (hb _).mono ?_
      rintro e w1 ⟨rfl, rfl⟩
      go_wp2_with fail
      refine (awake_any _).mono ?_
      rintro e w1 ⟨rfl, rfl⟩
      go_wp2_with fail
      refine (awake_any _).mono ?_
      rintro e w1 ⟨rfl, rfl⟩
      go_wp2
      go_ret
      exact ⟨rfl, rfl⟩
    · have inj := word_inj (h := h) (g := g) (v := v) (u := u) (by omega) (by omega)
      by_cases h3 : h = g
      · subst h3
        by_cases h4 : v = u
        · subst h4
          clear inj
          generalize word h v = x at *
          go_enter Try.func6, Try.ntmps6
          go_wp2_with fail
          refine (ha _).mono ?_
          rintro e w1 ⟨rfl, rfl⟩
          go_wp2_with fail
          refine (hb _).mono ?_
          rintro e w1 ⟨rfl, rfl⟩
          go_wp2_with fail
          refine (awake_any _).mono ?_
          rintro e w1 ⟨rfl, rfl⟩
          go_wp2
          go_ret
          exact ⟨ret_bool (by simp), rfl⟩
        · have n : ¬ word h v = word h u := fun e => h4 (inj e).2
          clear inj
          generalize word h v = x at *
          generalize word h u = y at *
          have q : (x == y) = false := by simp [n]
          have q2 : (v == u) = false := by simp [h4]
          go_enter Try.func6, Try.ntmps6
          go_wp2_with fail
          refine (ha _).mono ?_
          rintro e w1 ⟨rfl, rfl⟩
          go_wp2_with fail
          refine (hb _).mono ?_
          rintro e w1 ⟨rfl, rfl⟩
          go_wp2_with fail
          refine (awake_any _).mono ?_
          rintro e w1 ⟨rfl, rfl⟩
          go_wp2
          go_ret
          exact ⟨ret_bool (by simp), rfl⟩
      · have n : ¬ word h v = word g u := fun e => h3 (inj e).1
        clear inj
        generalize word h v = x at *
        generalize word g u = y at *
        have q : (x == y) = false := by simp [n]
        have q2 : (h == g) = false := by simp [h3]
        go_enter Try.func6, Try.ntmps6
        go_wp2_with fail
        refine (ha _).mono ?_
        rintro e w1 ⟨rfl, rfl⟩
        go_wp2_with fail
        refine (hb _).mono ?_
        rintro e w1 ⟨rfl, rfl⟩
        go_wp2_with fail
        refine (awake_any _).mono ?_
        rintro e w1 ⟨rfl, rfl⟩
        go_wp2
        go_ret
        exact ⟨ret_bool (by simp), rfl⟩
end Go.Proofs.Ytelbmagfnmkeaaa
