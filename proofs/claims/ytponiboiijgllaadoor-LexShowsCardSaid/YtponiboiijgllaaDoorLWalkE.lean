/- What the reference's Number answers of any text. Condition: the text has at most 1000000 bytes. -/
import Derived.Test.YtponiboiijgllaaDoorLWalkD
namespace Go.Proofs.YtponiboiijgllaaDoor
open Go.RowKit
set_option maxRecDepth 100000

theorem head_at {s : ByteArray} (h0 : 0 < s.size) : s.data.toList.head? = some (s[0]'h0) := by
  have := drop_at h0
  rw [List.drop_zero] at this
  rw [this]; rfl
theorem digL_minus {s : ByteArray} (h0 : 0 < s.size) (h : (s[0]'h0).toNat = 45) : (s.extract 1 s.size).data.toList = digL s.data.toList := by
  rw [suffix_bytes]
  unfold digL
  rw [head_at h0, (u8_eq (s[0]'h0) 45 (by omega)).2 h]
  rfl
theorem digL_none {s : ByteArray} (h : ∀ h0 : 0 < s.size, (s[0]'h0).toNat ≠ 45) : digL s.data.toList = s.data.toList := by
  unfold digL
  rw [if_neg]
  intro k
  by_cases h0 : 0 < s.size
  · rw [head_at h0] at k
    simp only [Option.some.injEq] at k
    exact h h0 (by rw [k]; rfl)
  · have e : s.data.toList = [] := List.eq_nil_of_length_eq_zero (by rw [len_data]; omega)
    rw [e] at k
    cases k
theorem digs_step {d : ByteArray} {pos : Nat} (hp : pos < d.size) (h : isDig (d[pos]'hp) = true) (HD : ∀ c ∈ d.data.toList.take pos, isDig c = true) :
    (∀ c ∈ d.data.toList.take (pos + 1), isDig c = true) ∧ valL (d.data.toList.take (pos + 1)) = 10 * valL (d.data.toList.take pos) + ((d[pos]'hp).toNat - 48) := by
  rw [take_next hp]
  refine ⟨?_, valL_snoc _ _⟩
  intro c hc
  rw [List.mem_append] at hc
  rcases hc with hc | hc
  · exact HD c hc
  · simp at hc; rw [hc]; exact h
theorem digs_no {d : ByteArray} {pos : Nat} (hp : pos < d.size) (h : isDig (d[pos]'hp) = false) : d.data.toList.all isDig = false := by
  rw [Bool.eq_false_iff]
  intro k
  rw [List.all_eq_true] at k
  have := k (d[pos]'hp) (by
    have := drop_at hp
    exact List.mem_of_mem_drop (i := pos) (by rw [this]; simp))
  rw [h] at this
  cases this
theorem minus_size (s : ByteArray) : (s.extract 1 s.size).size = s.size - 1 := by simp

set_option maxHeartbeats 2000000 in
theorem refNumber_short_m (s : ByteArray) (w : World) (hs : s.size ≤ 1000000) (h0 : 0 < s.size) (h45 : (s[0]'h0).toNat = 45) (hd : (s.size - 1) < 1) :
    Calls Tryd.prog 12 #[.string s] w fun e w' => e = .returned (numV none) ∧ w = w' := by
  have t45 : (((s[0]'h0).toNat : Int) == 45) = true := by simp only [beq_iff_eq]; omega
  clear h45
  go_enter Tryd.func12, Tryd.ntmps12
  go_wp2
  go_ret2
  exact ⟨rfl, rfl⟩
set_option maxHeartbeats 2000000 in
theorem refNumber_long_m (s : ByteArray) (w : World) (hs : s.size ≤ 1000000) (h0 : 0 < s.size) (h45 : (s[0]'h0).toNat = 45) (hd : 15 < (s.size - 1)) :
    Calls Tryd.prog 12 #[.string s] w fun e w' => e = .returned (numV none) ∧ w = w' := by
  have t45 : (((s[0]'h0).toNat : Int) == 45) = true := by simp only [beq_iff_eq]; omega
  clear h45
  have hd2 : (15 : Int) < (((s.size - 1) : Nat) : Int) := by omega
  go_enter Tryd.func12, Tryd.ntmps12
  go_wp2
  go_ret2
  exact ⟨rfl, rfl⟩
set_option maxHeartbeats 2000000 in
theorem refNumber_lead_m (s : ByteArray) (w : World) (hs : s.size ≤ 1000000) (h0 : 0 < s.size) (h45 : (s[0]'h0).toNat = 45) (hd : 1 ≤ (s.size - 1)) (h15 : (s.size - 1) ≤ 15) (h48 : ((s.extract 1 s.size)[0]'(by rw [minus_size]; omega)).toNat = 48) (h1 : 1 < s.size) :
    Calls Tryd.prog 12 #[.string s] w fun e w' => e = .returned (numV none) ∧ w = w' := by
  have t45 : (((s[0]'h0).toNat : Int) == 45) = true := by simp only [beq_iff_eq]; omega
  clear h45
  have t48 : ((((s.extract 1 s.size)[0]'(by rw [minus_size]; omega)).toNat : Int) == 48) = true := by simp only [beq_iff_eq]; omega
  have hp0 : 0 < (s.size - 1) := by omega
  clear h48
  go_enter Tryd.func12, Tryd.ntmps12
  go_wp2
  go_ret2
  exact ⟨rfl, rfl⟩
set_option maxHeartbeats 4000000 in
theorem refNumber_loop_m (s : ByteArray) (L : List UInt8) (HL : Hid ((s.extract 1 s.size).data.toList = L)) (w : World) (hs : s.size ≤ 1000000) (h0 : 0 < s.size) (h45 : (s[0]'h0).toNat = 45) (hd : 1 ≤ (s.size - 1)) (h15 : (s.size - 1) ≤ 15) (hok : ((((s.extract 1 s.size)[0]'(by rw [minus_size]; omega)).toNat : Int) == 48) = false) :
    Calls Tryd.prog 12 #[.string s] w fun e w' => e = .returned (numV (digsV L true)) ∧ w = w' := by
  have t45 : (((s[0]'h0).toNat : Int) == 45) = true := by simp only [beq_iff_eq]; omega
  clear h45
  have hp0 : 0 < (s.size - 1) := by omega
  have t48 := hok
  all_goals
    go_enter Tryd.func12, Tryd.ntmps12
    go_wp2
    go_loop [5, 6] (fun nv iv => ∃ k : Nat, k ≤ (s.size - 1) ∧ iv = .int .i64 k ∧ nv = .int .i64 (valL (L.take k)) ∧ Hid (∀ c ∈ L.take k, isDig c = true)) (fun _ iv => (s.size - 1) - (intOf iv).toNat)
    case atStart => exact ⟨0, by omega, rfl, rfl, Lib.hid (by simp)⟩
    case round =>
      obtain ⟨k, hk, rfl, rfl, HD⟩ := hrel
      have hv : valL (L.take k) < 1000000000000000 := valL_bd (by rw [List.length_take]; omega) HD.out
      by_cases hp : k < (s.size - 1)
      · have hi : (k : Int) < (((s.size - 1) : Nat) : Int) := by omega
        by_cases hg : isDig ((s.extract 1 s.size)[k]'(by rw [minus_size]; exact hp)) = true
        · obtain ⟨g1, g2⟩ := digs_step (d := (s.extract 1 s.size)) (by rw [minus_size]; exact hp) hg (by rw [HL.out]; exact HD.out)
          rw [HL.out] at g1 g2
          have HD2 := Lib.hid g1
          have HV := Lib.hid g2
          have g3 : 48 ≤ ((s.extract 1 s.size)[k]'(by rw [minus_size]; exact hp)).toNat ∧ ((s.extract 1 s.size)[k]'(by rw [minus_size]; exact hp)).toNat ≤ 57 := by simpa only [isDig, decide_eq_true_iff] using hg
          obtain ⟨g4, g5⟩ := g3
          have g6 : (48 : Int) ≤ (((s.extract 1 s.size)[k]'(by rw [minus_size]; exact hp)).toNat : Int) := by omega
          have g7 : (((s.extract 1 s.size)[k]'(by rw [minus_size]; exact hp)).toNat : Int) ≤ 57 := by omega
          clear g1 g2 hg
          go_wp2
          go_round
          case rel =>
            have := HV.out
            exact ⟨k + 1, by omega, by go_num, by go_num, HD2⟩
          case measure => simp [intOf]; omega
        · have HN : Hid (L.all isDig = false) := Lib.hid (by rw [← HL.out]; exact digs_no (d := (s.extract 1 s.size)) (by rw [minus_size]; exact hp) (by simpa using hg))
          have g4 : (((s.extract 1 s.size)[k]'(by rw [minus_size]; exact hp)).toNat : Int) < 48 ∨ ((48 : Int) ≤ (((s.extract 1 s.size)[k]'(by rw [minus_size]; exact hp)).toNat : Int) ∧ (57 : Int) < (((s.extract 1 s.size)[k]'(by rw [minus_size]; exact hp)).toNat : Int)) := by
            simp only [isDig, decide_eq_true_iff] at hg
            omega
          clear hg
          rcases g4 with g4 | ⟨g4, g5⟩
          all_goals
            go_wp2
            go_ret2
            rw [digsV_no HN.out]
            exact ⟨rfl, rfl⟩
      · have HT : Hid (L.take k = L) := Lib.hid (List.take_of_length_le (by rw [← HL.out, len_data, minus_size]; omega))
        have HA : Hid (L.all isDig = true) := Lib.hid (by rw [List.all_eq_true]; rw [HT.out] at HD; exact HD.out)
        go_wp2
        go_ret2
        rw [digsV_yes HA.out, HT.out]
        exact ⟨rfl, rfl⟩

set_option maxHeartbeats 2000000 in
theorem refNumber_short_p (s : ByteArray) (w : World) (hs : s.size ≤ 1000000) (hd : s.size < 1) :
    Calls Tryd.prog 12 #[.string s] w fun e w' => e = .returned (numV none) ∧ w = w' := by
  go_enter Tryd.func12, Tryd.ntmps12
  go_wp2
  go_ret2
  exact ⟨rfl, rfl⟩
set_option maxHeartbeats 2000000 in
theorem refNumber_long_p (s : ByteArray) (w : World) (hs : s.size ≤ 1000000) (h45 : ∀ h0 : 0 < s.size, (s[0]'h0).toNat ≠ 45) (hd : 15 < s.size) :
    Calls Tryd.prog 12 #[.string s] w fun e w' => e = .returned (numV none) ∧ w = w' := by
  have hz0 : 0 < s.size := by omega
  have t45 : (((s[0]'hz0).toNat : Int) == 45) = false := by have := h45 hz0; simp only [beq_eq_false_iff_ne, ne_eq]; omega
  clear h45
  have hd2 : (15 : Int) < ((s.size : Nat) : Int) := by omega
  go_enter Tryd.func12, Tryd.ntmps12
  go_wp2
  go_ret2
  exact ⟨rfl, rfl⟩
set_option maxHeartbeats 2000000 in
theorem refNumber_lead_p (s : ByteArray) (w : World) (hs : s.size ≤ 1000000) (h45 : ∀ h0 : 0 < s.size, (s[0]'h0).toNat ≠ 45) (hd : 1 ≤ s.size) (h15 : s.size ≤ 15) (h48 : (s[0]'(by omega)).toNat = 48) (h1 : 1 < s.size) :
    Calls Tryd.prog 12 #[.string s] w fun e w' => e = .returned (numV none) ∧ w = w' := by
  have hz0 : 0 < s.size := by omega
  have t45 : (((s[0]'hz0).toNat : Int) == 45) = false := by have := h45 hz0; simp only [beq_eq_false_iff_ne, ne_eq]; omega
  clear h45
  have t48 : (((s[0]'(by omega)).toNat : Int) == 48) = true := by simp only [beq_iff_eq]; omega
  have hp0 : 0 < s.size := by omega
  clear h48
  go_enter Tryd.func12, Tryd.ntmps12
  go_wp2
  go_ret2
  exact ⟨rfl, rfl⟩
set_option maxHeartbeats 4000000 in
theorem refNumber_loop_p (s : ByteArray) (L : List UInt8) (HL : Hid (s.data.toList = L)) (w : World) (hs : s.size ≤ 1000000) (h45 : ∀ h0 : 0 < s.size, (s[0]'h0).toNat ≠ 45) (hd : 1 ≤ s.size) (h15 : s.size ≤ 15) (hok : ((((s[0]'(by omega)).toNat : Int) == 48) = false) ∨ ((((s[0]'(by omega)).toNat : Int) == 48) = true ∧ s.size ≤ 1)) :
    Calls Tryd.prog 12 #[.string s] w fun e w' => e = .returned (numV (digsV L false)) ∧ w = w' := by
  have hz0 : 0 < s.size := by omega
  have t45 : (((s[0]'hz0).toNat : Int) == 45) = false := by have := h45 hz0; simp only [beq_eq_false_iff_ne, ne_eq]; omega
  clear h45
  have hp0 : 0 < s.size := by omega
  rcases hok with t48 | ⟨t48, hone⟩
  all_goals
    go_enter Tryd.func12, Tryd.ntmps12
    go_wp2
    go_loop [5, 6] (fun nv iv => ∃ k : Nat, k ≤ s.size ∧ iv = .int .i64 k ∧ nv = .int .i64 (valL (L.take k)) ∧ Hid (∀ c ∈ L.take k, isDig c = true)) (fun _ iv => s.size - (intOf iv).toNat)
    case atStart => exact ⟨0, by omega, rfl, rfl, Lib.hid (by simp)⟩
    case round =>
      obtain ⟨k, hk, rfl, rfl, HD⟩ := hrel
      have hv : valL (L.take k) < 1000000000000000 := valL_bd (by rw [List.length_take]; omega) HD.out
      by_cases hp : k < s.size
      · have hi : (k : Int) < ((s.size : Nat) : Int) := by omega
        by_cases hg : isDig (s[k]'hp) = true
        · obtain ⟨g1, g2⟩ := digs_step (d := s) hp hg (by rw [HL.out]; exact HD.out)
          rw [HL.out] at g1 g2
          have HD2 := Lib.hid g1
          have HV := Lib.hid g2
          have g3 : 48 ≤ (s[k]'hp).toNat ∧ (s[k]'hp).toNat ≤ 57 := by simpa only [isDig, decide_eq_true_iff] using hg
          obtain ⟨g4, g5⟩ := g3
          have g6 : (48 : Int) ≤ ((s[k]'hp).toNat : Int) := by omega
          have g7 : ((s[k]'hp).toNat : Int) ≤ 57 := by omega
          clear g1 g2 hg
          go_wp2
          go_round
          case rel =>
            have := HV.out
            exact ⟨k + 1, by omega, by go_num, by go_num, HD2⟩
          case measure => simp [intOf]; omega
        · have HN : Hid (L.all isDig = false) := Lib.hid (by rw [← HL.out]; exact digs_no (d := s) hp (by simpa using hg))
          have g4 : ((s[k]'hp).toNat : Int) < 48 ∨ ((48 : Int) ≤ ((s[k]'hp).toNat : Int) ∧ (57 : Int) < ((s[k]'hp).toNat : Int)) := by
            simp only [isDig, decide_eq_true_iff] at hg
            omega
          clear hg
          rcases g4 with g4 | ⟨g4, g5⟩
          all_goals
            go_wp2
            go_ret2
            rw [digsV_no HN.out]
            exact ⟨rfl, rfl⟩
      · have HT : Hid (L.take k = L) := Lib.hid (List.take_of_length_le (by rw [← HL.out, len_data]; omega))
        have HA : Hid (L.all isDig = true) := Lib.hid (by rw [List.all_eq_true]; rw [HT.out] at HD; exact HD.out)
        go_wp2
        go_ret2
        rw [digsV_yes HA.out, HT.out]
        exact ⟨rfl, rfl⟩

theorem refNumber_any (s : ByteArray) (w : World) (hs : s.size ≤ 1000000) :
    Calls Tryd.prog 12 #[.string s] w fun e w' => e = .returned (numV (numL s.data.toList)) ∧ w = w' := by
  by_cases hm : ∃ h0 : 0 < s.size, (s[0]'h0).toNat = 45
  · obtain ⟨h0, h45⟩ := hm
    have hd := digL_minus h0 h45
    have hl : (digL s.data.toList).length = s.size - 1 := by rw [← hd, len_data, minus_size]
    have hN : numL s.data.toList = if s.size - 1 < 1 ∨ 15 < s.size - 1 ∨ ((s.extract 1 s.size).data.toList.head? = some 48 ∧ 1 < s.size) then none
        else digsV (s.extract 1 s.size).data.toList true := by
      unfold numL digsV
      rw [hl, ← hd, len_data, if_pos (by omega : s.size - 1 < s.size)]
      rfl
    by_cases h1 : s.size - 1 < 1
    · rw [hN, if_pos (.inl h1)]
      exact refNumber_short_m s w hs h0 h45 h1
    · by_cases h15 : 15 < s.size - 1
      · rw [hN, if_pos (.inr (.inl h15))]
        exact refNumber_long_m s w hs h0 h45 h15
      · have hz : 0 < (s.extract 1 s.size).size := by rw [minus_size]; omega
        by_cases h48 : ((s.extract 1 s.size)[0]'hz).toNat = 48
        · rw [hN, if_pos (.inr (.inr ⟨by rw [head_at hz, (u8_eq _ 48 (by omega)).2 h48]; rfl, by omega⟩))]
          exact refNumber_lead_m s w hs h0 h45 (by omega) (by omega) h48 (by omega)
        · rw [hN, if_neg (by
            rintro (k | k | k)
            · omega
            · omega
            · rw [head_at hz] at k
              simp only [Option.some.injEq] at k
              exact h48 (by rw [k.1]; rfl))]
          exact refNumber_loop_m s _ (Lib.hid rfl) w hs h0 h45 (by omega) (by omega) (by simp only [beq_eq_false_iff_ne, ne_eq]; omega)
  · have h45 : ∀ h0 : 0 < s.size, (s[0]'h0).toNat ≠ 45 := fun h0 k => hm ⟨h0, k⟩
    have hd := digL_none h45
    have hN : numL s.data.toList = if s.size < 1 ∨ 15 < s.size ∨ (s.data.toList.head? = some 48 ∧ 1 < s.size) then none
        else digsV s.data.toList false := by
      unfold numL digsV
      rw [hd, len_data, if_neg (by omega : ¬ s.size < s.size)]
      rfl
    by_cases h1 : s.size < 1
    · rw [hN, if_pos (.inl h1)]
      exact refNumber_short_p s w hs h1
    · by_cases h15 : 15 < s.size
      · rw [hN, if_pos (.inr (.inl h15))]
        exact refNumber_long_p s w hs h45 h15
      · have hz : 0 < s.size := by omega
        by_cases h48 : (s[0]'hz).toNat = 48
        · by_cases hone : 1 < s.size
          · rw [hN, if_pos (.inr (.inr ⟨by rw [head_at hz, (u8_eq _ 48 (by omega)).2 h48]; rfl, hone⟩))]
            exact refNumber_lead_p s w hs h45 (by omega) (by omega) h48 hone
          · rw [hN, if_neg (by
              rintro (k | k | k)
              · omega
              · omega
              · omega)]
            exact refNumber_loop_p s _ (Lib.hid rfl) w hs h45 (by omega) (by omega) (.inr ⟨by simp only [beq_iff_eq]; omega, by omega⟩)
        · rw [hN, if_neg (by
            rintro (k | k | k)
            · omega
            · omega
            · rw [head_at hz] at k
              simp only [Option.some.injEq] at k
              exact h48 (by rw [k.1]; rfl))]
          exact refNumber_loop_p s _ (Lib.hid rfl) w hs h45 (by omega) (by omega) (.inl (by simp only [beq_eq_false_iff_ne, ne_eq]; omega))
end Go.Proofs.YtponiboiijgllaaDoor
