/- HashPlays, HashParts and HashUnlike answer true of any words and texts. No condition. -/
import Derived.Test.YtiacnekofmgdbaaWalkB
namespace Go.Proofs.Ytiacnekofmgdbaa
open Go.RowKit Go.Op
set_option maxRecDepth 100000

set_option maxHeartbeats 1000000 in
theorem plays_any (n : Nat) (hn : n < 4294967296) (s : ByteArray) (w : World) : Calls Try.prog 3 #[.int .u32 (n : Int), .string s] w fun e w' => e = .returned (.bool true) ∧ w = w' := by
  by_cases h0 : s.size ≤ 300
  · have d : decide (300 < (s.size : Int)) = false := decide_eq_false (by omega)
    have g : ¬ 300 < (s.size : Int) := by omega
    have ha := fun w => add_any n hn s (by omega) w
    have hr := fun w => refadd_any n hn s (by omega) w
    have hz := fun w => refadd_any 0 (by decide) s (by omega) w
    have hy := word_lt (n := 0) (by decide) s.data.toList
    have he := fun w => end_any n w
    have hf := fun w => refend_any n hn w
    have hg := fun w => refend_any (word 0 s.data.toList) hy w
    have ho := fun w => of_any s (by omega) w
    unfold sum at ho
    go_enter Try.func3, Try.ntmps3
    go_wp2_with fail
    refine (awake_any _).mono ?_
    rintro e w1 ⟨rfl, rfl⟩
    go_wp2_with fail
    refine (ha _).mono ?_
    rintro e w1 ⟨rfl, rfl⟩
    go_wp2_with fail
    refine (hr _).mono ?_
    rintro e w1 ⟨rfl, rfl⟩
    go_wp2_with fail
    refine (he _).mono ?_
    rintro e w1 ⟨rfl, rfl⟩
    go_wp2_with fail
    refine (hf _).mono ?_
    rintro e w1 ⟨rfl, rfl⟩
    go_wp2_with fail
    refine (ho _).mono ?_
    rintro e w1 ⟨rfl, rfl⟩
    go_wp2_with fail
    refine (hz _).mono ?_
    rintro e w1 ⟨rfl, rfl⟩
    go_wp2_with fail
    refine (hg _).mono ?_
    rintro e w1 ⟨rfl, rfl⟩
    go_wp2
    go_ret
    exact ⟨rfl, rfl⟩
  · have d : decide (300 < (s.size : Int)) = true := decide_eq_true (by omega)
    have g : 300 < (s.size : Int) := by omega
    go_enter Try.func3, Try.ntmps3
    go_wp2_with fail
    refine (awake_any _).mono ?_
    rintro e w1 ⟨rfl, rfl⟩
    go_wp2_with fail
    refine (awake_any _).mono ?_
    rintro e w1 ⟨rfl, rfl⟩
    go_wp2
    go_ret
    exact ⟨rfl, rfl⟩

theorem toList_append (s t : ByteArray) : (s ++ t).data.toList = s.data.toList ++ t.data.toList := by rw [ByteArray.data_append, Array.toList_append]
set_option maxHeartbeats 1000000 in
theorem parts_any (n : Nat) (hn : n < 4294967296) (s t : ByteArray) (w : World) : Calls Try.prog 4 #[.int .u32 (n : Int), .string s, .string t] w fun e w' => e = .returned (.bool true) ∧ w = w' := by
  by_cases h0 : s.size ≤ 300
  · have d : decide (300 < (s.size : Int)) = false := decide_eq_false (by omega)
    have g : ¬ 300 < (s.size : Int) := by omega
    by_cases h2 : t.size ≤ 300
    · have d2 : decide (300 < (t.size : Int)) = false := decide_eq_false (by omega)
      have g2 : ¬ 300 < (t.size : Int) := by omega
      have hm := word_lt hn s.data.toList
      have ha := fun w => add_any n hn s (by omega) w
      have hb := fun w => add_any (word n s.data.toList) hm t (by omega) w
      have hc := fun w => add_any n hn (s ++ t) (by rw [ByteArray.size_append]; omega) w
      rw [toList_append, word_append] at hc
      have hz : ∀ w, Calls Try.prog 8 #[.int .u32 (n : Int), .string ⟨#[]⟩] w fun e w' => e = .returned (.int .u32 (n : Int)) ∧ w = w' := fun w => add_any n hn ⟨#[]⟩ (by decide) w
      have hs : ¬ (9223372036854775807 : Nat) < s.size + t.size := by omega
      go_enter Try.func4, Try.ntmps4
      go_wp2_with fail
      refine (awake_any _).mono ?_
      rintro e w1 ⟨rfl, rfl⟩
      go_wp2_with fail
      refine (ha _).mono ?_
      rintro e w1 ⟨rfl, rfl⟩
      go_wp2_with fail
      refine (hb _).mono ?_
      rintro e w1 ⟨rfl, rfl⟩
      go_wp2_with fail
      refine (hc _).mono ?_
      rintro e w1 ⟨rfl, rfl⟩
      go_wp2_with fail
      refine (hz _).mono ?_
      rintro e w1 ⟨rfl, rfl⟩
      go_wp2
      go_ret
      exact ⟨rfl, rfl⟩
    · have d2 : decide (300 < (t.size : Int)) = true := decide_eq_true (by omega)
      have g2 : 300 < (t.size : Int) := by omega
      go_enter Try.func4, Try.ntmps4
      go_wp2_with fail
      refine (awake_any _).mono ?_
      rintro e w1 ⟨rfl, rfl⟩
      go_wp2_with fail
      refine (awake_any _).mono ?_
      rintro e w1 ⟨rfl, rfl⟩
      go_wp2
      go_ret
      exact ⟨rfl, rfl⟩
  · have d : decide (300 < (s.size : Int)) = true := decide_eq_true (by omega)
    have g : 300 < (s.size : Int) := by omega
    go_enter Try.func4, Try.ntmps4
    go_wp2_with fail
    refine (awake_any _).mono ?_
    rintro e w1 ⟨rfl, rfl⟩
    go_wp2_with fail
    refine (awake_any _).mono ?_
    rintro e w1 ⟨rfl, rfl⟩
    go_wp2
    go_ret
    exact ⟨rfl, rfl⟩

set_option maxHeartbeats 1000000 in
theorem unlike_any (m n : Nat) (hm : m < 4294967296) (hn : n < 4294967296) (s : ByteArray) (w : World) : Calls Try.prog 5 #[.int .u32 (m : Int), .int .u32 (n : Int), .string s] w fun e w' => e = .returned (.bool true) ∧ w = w' := by
  by_cases h0 : s.size ≤ 300
  · have d : decide (300 < (s.size : Int)) = false := decide_eq_false (by omega)
    have g : ¬ 300 < (s.size : Int) := by omega
    have ha := fun w => add_any m hm s (by omega) w
    have hb := fun w => add_any n hn s (by omega) w
    have hc := fun w => end_any m w
    have he := fun w => end_any n w
    by_cases e0 : m = n
    · subst e0
      go_enter Try.func5, Try.ntmps5
      go_wp2_with fail
      refine (awake_any _).mono ?_
      rintro e w1 ⟨rfl, rfl⟩
      go_wp2_with fail
      refine (ha _).mono ?_
      rintro e w1 ⟨rfl, rfl⟩
      go_wp2_with fail
      refine (hb _).mono ?_
      rintro e w1 ⟨rfl, rfl⟩
      go_wp2_with fail
      refine (hc _).mono ?_
      rintro e w1 ⟨rfl, rfl⟩
      go_wp2_with fail
      refine (he _).mono ?_
      rintro e w1 ⟨rfl, rfl⟩
      go_wp2
      go_ret
      exact ⟨rfl, rfl⟩
    · have u1 : ((m : Int) == (n : Int)) = false := by rw [beq_eq_false_iff_ne]; omega
      have u2 : (((word m s.data.toList : Nat) : Int) == ((word n s.data.toList : Nat) : Int)) = false := by rw [beq_eq_false_iff_ne]; intro e; exact e0 (word_inj hm hn s.data.toList (by omega))
      have u3 : (((fin m : Nat) : Int) == ((fin n : Nat) : Int)) = false := by rw [beq_eq_false_iff_ne]; intro e; exact e0 (fin_inj hm hn (by omega))
      go_enter Try.func5, Try.ntmps5
      go_wp2_with fail
      refine (awake_any _).mono ?_
      rintro e w1 ⟨rfl, rfl⟩
      go_wp2_with fail
      refine (ha _).mono ?_
      rintro e w1 ⟨rfl, rfl⟩
      go_wp2_with fail
      refine (hb _).mono ?_
      rintro e w1 ⟨rfl, rfl⟩
      go_wp2_with fail
      refine (hc _).mono ?_
      rintro e w1 ⟨rfl, rfl⟩
      go_wp2_with fail
      refine (he _).mono ?_
      rintro e w1 ⟨rfl, rfl⟩
      go_wp2
      go_ret
      exact ⟨rfl, rfl⟩
  · have d : decide (300 < (s.size : Int)) = true := decide_eq_true (by omega)
    have g : 300 < (s.size : Int) := by omega
    go_enter Try.func5, Try.ntmps5
    go_wp2_with fail
    refine (awake_any _).mono ?_
    rintro e w1 ⟨rfl, rfl⟩
    go_wp2_with fail
    refine (awake_any _).mono ?_
    rintro e w1 ⟨rfl, rfl⟩
    go_wp2
    go_ret
    exact ⟨rfl, rfl⟩
end Go.Proofs.Ytiacnekofmgdbaa
