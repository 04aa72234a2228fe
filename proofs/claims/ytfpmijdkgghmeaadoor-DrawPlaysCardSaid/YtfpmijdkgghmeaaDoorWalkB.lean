/- DrawUnlike, DrawLevels and DrawHalves answer true of any numbers. Condition: the library's table of 32 numbers stands in its variable. -/
import Derived.Test.YtfpmijdkgghmeaaDoorWalkA
namespace Go.Proofs.YtfpmijdkgghmeaaDoor
open Go.RowKit Go.Op
set_option maxRecDepth 100000

theorem unlike_any (a b : Nat) (ha : a < 4294967296) (hb : b < 4294967296) (w : World) (hT : TabAt w) : Calls Tryd.prog 5 #[.int .u32 (a : Int), .int .u32 (b : Int)] w fun e w' => e = .returned (.bool true) ∧ w = w' := by
  have h1 := fun w => next_any a ha w
  have h2 := fun w => next_any b hb w
  have h3 : ∀ w, Calls Tryd.prog 10 #[.int .u32 0] w fun e w' => e = .returned (.int .u32 0) ∧ w = w' := fun w => next_any 0 (by decide) w
  by_cases e0 : a = b
  · subst e0
    go_enter Tryd.func5, Tryd.ntmps5
    go_wp2_with fail
    refine (awake_any _ hT).mono ?_
    rintro e w1 ⟨rfl, rfl⟩
    go_wp2_with fail
    refine (h1 _).mono ?_
    rintro e w1 ⟨rfl, rfl⟩
    go_wp2_with fail
    refine (h1 _).mono ?_
    rintro e w1 ⟨rfl, rfl⟩
    go_wp2_with fail
    refine (h3 _).mono ?_
    rintro e w1 ⟨rfl, rfl⟩
    go_wp2
    go_ret
    exact ⟨rfl, rfl⟩
  · have u1 : ((a : Int) == (b : Int)) = false := by rw [beq_eq_false_iff_ne]; omega
    have u2 : (((nx a : Nat) : Int) == ((nx b : Nat) : Int)) = false := by rw [beq_eq_false_iff_ne]; intro e; exact e0 (nx_inj (by omega))
    go_enter Tryd.func5, Tryd.ntmps5
    go_wp2_with fail
    refine (awake_any _ hT).mono ?_
    rintro e w1 ⟨rfl, rfl⟩
    go_wp2_with fail
    refine (h1 _).mono ?_
    rintro e w1 ⟨rfl, rfl⟩
    go_wp2_with fail
    refine (h2 _).mono ?_
    rintro e w1 ⟨rfl, rfl⟩
    go_wp2_with fail
    refine (h3 _).mono ?_
    rintro e w1 ⟨rfl, rfl⟩
    go_wp2
    go_ret
    exact ⟨rfl, rfl⟩

set_option maxHeartbeats 1000000 in
theorem levels_any (n a b : Nat) (hn : n < 4294967296) (ha : a < 256) (hb : b < 256) (w : World) (hT : TabAt w) : Calls Tryd.prog 6 #[.int .u32 (n : Int), .int .u8 (a : Int), .int .u8 (b : Int)] w fun e w' => e = .returned (.bool true) ∧ w = w' := by
  by_cases h0 : a ≤ b
  · have i0 : ¬ (a : Int) > (b : Int) := by omega
    have hm := ht_mono n (a := (a : Int)) (b := (b : Int)) (by omega)
    have h1 := fun w hT => height_any n hn (a : Int) w hT
    have h2 := fun w hT => height_any n hn (b : Int) w hT
    have b1 := ht_one n (a : Int)
    have b2 := ht_le n (b : Int)
    have b3 := lv_top (b : Int)
    generalize ht n (a : Int) = x at hm h1 b1
    generalize ht n (b : Int) = y at hm h2 b2
    have j1 : (x : Int) ≥ 1 := by omega
    have j2 : (y : Int) ≤ 24 := by omega
    have j3 : (x : Int) ≤ (y : Int) := by omega
    have HM := Lib.hid hm.2
    clear hm b1 b2 b3
    by_cases e0 : x = y
    · subst e0
      go_enter Tryd.func6, Tryd.ntmps6
      go_wp2_with fail
      refine (awake_any _ hT).mono ?_
      rintro e w1 ⟨rfl, rfl⟩
      go_wp2_with fail
      refine (h1 _ hT).mono ?_
      rintro e w1 ⟨rfl, rfl⟩
      go_wp2_with fail
      refine (h2 _ hT).mono ?_
      rintro e w1 ⟨rfl, rfl⟩
      go_wp2
      go_ret
      exact ⟨rfl, rfl⟩
    · have u1 : ((x : Int) == (y : Int)) = false := by rw [beq_eq_false_iff_ne]; omega
      have u2 : ((x : Int) == max 1 (a : Int)) = true := by rw [beq_iff_eq]; rcases HM.out with h | h <;> omega
      go_enter Tryd.func6, Tryd.ntmps6
      go_wp2_with fail
      refine (awake_any _ hT).mono ?_
      rintro e w1 ⟨rfl, rfl⟩
      go_wp2_with fail
      refine (h1 _ hT).mono ?_
      rintro e w1 ⟨rfl, rfl⟩
      go_wp2_with fail
      refine (h2 _ hT).mono ?_
      rintro e w1 ⟨rfl, rfl⟩
      go_wp2
      go_ret
      exact ⟨rfl, rfl⟩
  · have i0 : (a : Int) > (b : Int) := by omega
    go_enter Tryd.func6, Tryd.ntmps6
    go_wp2_with fail
    refine (awake_any _ hT).mono ?_
    rintro e w1 ⟨rfl, rfl⟩
    go_wp2_with fail
    refine (awake_any _ hT).mono ?_
    rintro e w1 ⟨rfl, rfl⟩
    go_wp2
    go_ret
    exact ⟨rfl, rfl⟩

set_option maxHeartbeats 1000000 in
theorem halves_any (k j : Nat) (hk : k < 256) (hj : j < 256) (w : World) (hT : TabAt w) : Calls Tryd.prog 4 #[.int .u8 (k : Int), .int .u8 (j : Int)] w fun e w' => e = .returned (.bool true) ∧ w = w' := by
  go_enter Tryd.func4, Tryd.ntmps4
  go_wp2_with fail
  refine (awake_any _ hT).mono ?_
  rintro e w1 ⟨rfl, rfl⟩
  go_wp2
  obtain ⟨n, hn⟩ : ∃ n, n = k % 13 := ⟨_, rfl⟩
  obtain ⟨m, hm⟩ : ∃ m, m = j % (n + 1) := ⟨_, rfl⟩
  have e1 : (k : Int) % 13 = (n : Int) := by rw [hn]; omega
  have e2 : (j : Int) % ((n : Int) + 1) = (m : Int) := by rw [hm, Int.natCast_emod]; rfl
  have hn2 : n ≤ 12 := by omega
  have hm2 : m ≤ n := by have := Nat.mod_lt j (show 0 < n + 1 by omega); omega
  rw [e1, e2]
  clear e1 e2 hn hm hj hk
  have hpn : 2 ^ n ≤ 2 ^ 12 := Nat.pow_le_pow_right (by decide) hn2
  have hpd : 2 ^ (n - m) ≤ 2 ^ 12 := Nat.pow_le_pow_right (by decide) (by omega)
  have hdiv : 2 ^ n / 2 ^ m = 2 ^ (n - m) := Nat.pow_div hm2 (by decide)
  have hpos : 0 < 2 ^ m := Nat.two_pow_pos m
  have hW : wrap64 ((2 : Int) ^ n) = ((2 ^ n : Nat) : Int) := by
    have e : (2 : Int) ^ n = ((2 ^ n : Nat) : Int) := by simp
    rw [e]
    generalize 2 ^ n = N at hpn
    have : N ≤ 4096 := hpn
    exact IntWalk.wrap64_in _ ⟨by omega, by omega⟩
  have hD : wrap64 ((2 : Int) ^ (n - m)) = ((2 ^ (n - m) : Nat) : Int) := by
    have e : (2 : Int) ^ (n - m) = ((2 ^ (n - m) : Nat) : Int) := by simp
    rw [e]
    generalize 2 ^ (n - m) = N at hpd
    have : N ≤ 4096 := hpd
    exact IntWalk.wrap64_in _ ⟨by omega, by omega⟩
  have hstep := fun x => count_step x (2 ^ m) hpos
  have hup := fun x => up_all 23 m x (by omega)
  obtain ⟨N, eN⟩ : ∃ N, N = 2 ^ n := ⟨_, rfl⟩
  obtain ⟨D, eD⟩ : ∃ D, D = 2 ^ (n - m) := ⟨_, rfl⟩
  obtain ⟨M, eM⟩ : ∃ M, M = 2 ^ m := ⟨_, rfl⟩
  rw [← eN] at hpn hdiv hW
  rw [← eD] at hdiv hD
  rw [← eM] at hdiv hpos hstep
  simp only [← eM] at hup
  have HS := Lib.hid hstep
  have HU := Lib.hid hup
  have HD := Lib.hid hdiv
  have hN : N ≤ 4096 := hpn
  clear hpn hpd eN eD eM hstep hup hdiv
  go_loop [7, 8] (fun cv xv => ∃ x c : Nat, x ≤ N ∧ xv = .int .i64 (x : Int) ∧ cv = .int .i64 (c : Int) ∧ c = x / M) (fun _ xv => N - (intOf xv).toNat)
  case atStart => exact ⟨0, 0, by omega, rfl, rfl, by rw [Nat.zero_div]⟩
  case round =>
    obtain ⟨x, c, hx, rfl, rfl, hc⟩ := hrel
    have hcx : c ≤ x := by rw [hc]; exact Nat.div_le_self _ _
    have HC := Lib.hid hc
    have hs := HS.out x
    have hu := HU.out x
    rw [← hc] at hs
    clear hc
    have hh := fun w hT => height_any x (by omega) 24 w hT
    have he : ht x 24 = 1 + up 23 x := rfl
    rw [he] at hh
    have HX := Lib.hid hs
    have HY := Lib.hid hu
    clear he hs hu
    generalize up 23 x = u at hh HY
    by_cases h1 : x < N
    · have i1 : (x : Int) < wrap64 ((2 : Int) ^ n) := by rw [hW]; omega
      have HH := Lib.hid hh
      by_cases h2 : m ≤ u
      · have i2 : ((1 + u : Nat) : Int) > (m : Int) := by omega
        go_wp2_with fail
        refine (hh _ hT).mono ?_
        rintro e w1 ⟨rfl, rfl⟩
        go_wp2
        go_round
        case rel => exact ⟨x + 1, c + 1, by omega, by go_num, by go_num, by have := HX.out; rw [if_pos (HY.out.1 h2)] at this; omega⟩
        case measure => simp [intOf]; omega
      · have i2 : ¬ ((1 + u : Nat) : Int) > (m : Int) := by omega
        go_wp2_with fail
        refine (hh _ hT).mono ?_
        rintro e w1 ⟨rfl, rfl⟩
        go_wp2
        go_round
        case rel => exact ⟨x + 1, c, by omega, by go_num, by go_num, by have := HX.out; rw [if_neg (fun h => h2 (HY.out.2 h))] at this; omega⟩
        case measure => simp [intOf]; omega
    · have i1 : ¬ (x : Int) < wrap64 ((2 : Int) ^ n) := by rw [hW]; omega
      have i3 : ((c : Int) == wrap64 ((2 : Int) ^ (n - m))) = true := by
        rw [hD, beq_iff_eq]
        have h3 := HC.out
        have h4 := HD.out
        obtain rfl : x = N := by omega
        omega
      clear hW hD
      go_wp2
      go_ret
      exact ⟨rfl, rfl⟩
end Go.Proofs.YtfpmijdkgghmeaaDoor
