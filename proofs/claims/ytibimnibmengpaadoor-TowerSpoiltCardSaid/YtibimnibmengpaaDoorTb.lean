/- What tag.Word and tag.To answer; whom a link leads to. No condition. -/
import Derived.Test.YtibimnibmengpaaDoorTa
namespace Go.Proofs.YtibimnibmengpaaDoor
open Go.RowKit Go.Op
set_option maxRecDepth 100000

/-- A word of a handle and a version; whom it tells. -/
def tword (h v : Int) : Int := if (h = 0 ∨ isH h = true) ∧ 0 ≤ v ∧ v ≤ 1073741824 then v * 2147483648 + h else -1
def tto (x : Int) : Int := if 0 ≤ x ∧ isH (x % 2147483648) = true then x % 2147483648 else 0
theorem isH_in {h : Int} (hi : isH h = true) : 0 < h ∧ h < 1073741824 ∧ 0 < h % 65536 := of_decide_eq_true hi
theorem tword_any (h v : Int) (w : World) : Calls Tryd.prog 34 #[.int .i64 h, .int .i64 v] w fun e w' => e = .returned (.int .i64 (tword h v)) ∧ w = w' := by
  by_cases h0 : h = 0
  · subst h0
    by_cases h1 : v < 0
    · have e : tword 0 v = -1 := if_neg (by omega)
      rw [e]
      go_enter Tryd.func34, Tryd.ntmps34
      go_wp2
      go_ret
      exact ⟨rfl, rfl⟩
    · by_cases h2 : 1073741824 < v
      · have e : tword 0 v = -1 := if_neg (by omega)
        rw [e]
        go_enter Tryd.func34, Tryd.ntmps34
        go_wp2
        go_ret
        exact ⟨rfl, rfl⟩
      · have e : tword 0 v = v * 2147483648 := (if_pos ⟨Or.inl rfl, by omega, by omega⟩ : tword 0 v = v * 2147483648 + 0).trans (Int.add_zero _)
        have HO := Lib.hid ((or31 v 0 (by omega) (by omega) (by omega) (by omega)).trans (Int.add_zero _))
        rw [e]
        go_enter Tryd.func34, Tryd.ntmps34
        go_wp2
        go_ret
        exact ⟨ret_i64 HO.out, rfl⟩
  · have hr := fun w => right_any h w
    cases hi : isH h
    · have e : tword h v = -1 := if_neg (by rw [hi]; simp [h0])
      rw [hi] at hr
      rw [e]
      go_enter Tryd.func34, Tryd.ntmps34
      go_wp2_with fail
      refine (hr _).mono ?_
      rintro e w1 ⟨rfl, rfl⟩
      go_wp2
      go_ret
      exact ⟨rfl, rfl⟩
    · rw [hi] at hr
      obtain ⟨i1, i2, i3⟩ := isH_in hi
      by_cases h1 : v < 0
      · have e : tword h v = -1 := if_neg (by omega)
        rw [e]
        go_enter Tryd.func34, Tryd.ntmps34
        go_wp2_with fail
        refine (hr _).mono ?_
        rintro e w1 ⟨rfl, rfl⟩
        go_wp2
        go_ret
        exact ⟨rfl, rfl⟩
      · by_cases h2 : 1073741824 < v
        · have e : tword h v = -1 := if_neg (by omega)
          rw [e]
          go_enter Tryd.func34, Tryd.ntmps34
          go_wp2_with fail
          refine (hr _).mono ?_
          rintro e w1 ⟨rfl, rfl⟩
          go_wp2
          go_ret
          exact ⟨rfl, rfl⟩
        · have e : tword h v = v * 2147483648 + h := if_pos ⟨Or.inr hi, by omega, by omega⟩
          have HO := Lib.hid (or31 v h (by omega) (by omega) (by omega) (by omega))
          rw [e]
          go_enter Tryd.func34, Tryd.ntmps34
          go_wp2_with fail
          refine (hr _).mono ?_
          rintro e w1 ⟨rfl, rfl⟩
          go_wp2
          go_ret
          exact ⟨ret_i64 HO.out, rfl⟩
theorem tto_any (x : Int) (w : World) : Calls Tryd.prog 29 #[.int .i64 x] w fun e w' => e = .returned (.int .i64 (tto x)) ∧ w = w' := by
  have HA := Lib.hid (and31 x)
  by_cases h1 : x < 0
  · have e : tto x = 0 := if_neg (by omega)
    rw [e]
    go_enter Tryd.func29, Tryd.ntmps29
    go_wp2
    go_ret
    exact ⟨rfl, rfl⟩
  · have hr := fun w => right_any (x % 2147483648) w
    cases hi : isH (x % 2147483648)
    · have e : tto x = 0 := if_neg (by rw [hi]; simp)
      rw [hi] at hr
      rw [e]
      go_enter Tryd.func29, Tryd.ntmps29
      go_wp2_with (rw [HA.out])
      refine (hr _).mono ?_
      rintro e w1 ⟨rfl, rfl⟩
      go_wp2
      go_ret
      exact ⟨rfl, rfl⟩
    · have e : tto x = x % 2147483648 := if_pos ⟨by omega, hi⟩
      rw [hi] at hr
      rw [e]
      clear e
      go_enter Tryd.func29, Tryd.ntmps29
      go_wp2_with (rw [HA.out])
      refine (hr _).mono ?_
      rintro e w1 ⟨rfl, rfl⟩
      go_wp2
      go_ret
      exact ⟨rfl, rfl⟩

theorem tto_word {h v : Int} (hh : h = 0 ∨ isH h = true) (h0 : 0 ≤ v) (h1 : v ≤ 1073741824) : tto (tword h v) = h := by
  rw [tword, if_pos ⟨hh, h0, h1⟩]
  have hb : 0 ≤ h ∧ h < 1073741824 := by
    rcases hh with rfl | hi
    · omega
    · have := isH_in hi; omega
  have e : (v * 2147483648 + h) % 2147483648 = h := by omega
  rw [tto, e]
  rcases hh with rfl | hi
  · split <;> rfl
  · rw [if_pos ⟨by omega, hi⟩]
end Go.Proofs.YtibimnibmengpaaDoor
