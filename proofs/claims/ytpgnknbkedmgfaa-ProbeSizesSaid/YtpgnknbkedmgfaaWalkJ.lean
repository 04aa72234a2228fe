/- ProbeSizes and ProbeLooks answer true of any number, any keys and any key. Conditions: none but that what is handed in stands in memory. -/
import Derived.Test.YtpgnknbkedmgfaaWalkI
namespace Go.Proofs.Ytpgnknbkedmgfaa
open Go.RowKit Go.Op
set_option maxRecDepth 100000

theorem sizes_step {N i : Nat} (h : i ≤ blen (N - 1)) : (i + 1 ≤ blen (N - 1) ∧ 2 ^ (i + 1) < sz N ∧ 2 ^ (i + 1) * 2 ≤ sz N) ∨ sz N = 2 ^ (i + 1) := by
  rcases Nat.lt_or_ge i (blen (N - 1)) with h1 | h1
  · left
    refine ⟨h1, ?_, ?_⟩
    · exact Nat.pow_lt_pow_right (by decide) (by omega)
    · unfold sz
      rw [← Nat.pow_succ]
      exact Nat.pow_le_pow_right (by decide) (by omega)
  · right
    unfold sz
    congr 2
    omega
set_option maxHeartbeats 2000000 in
theorem sizesLaw_any (z : Int) (hz : In64 z) (w : World) : Calls Try.prog 7 #[.int .i64 z] w fun e w' => e = .returned (.bool true) ∧ Below w.heap.size w w' := by
  obtain ⟨z0, z1⟩ := hz
  by_cases h0 : 1099511627776 < z
  · have d0 : decide (1099511627776 < z) = true := decide_eq_true h0
    go_enter Try.func7, Try.ntmps7
    go_wp2_with fail
    refine (awake_any _).mono ?_
    rintro e w1 ⟨rfl, b1⟩
    have s1 := b1.size
    go_wp2_with fail
    refine (awake_any _).mono ?_
    rintro e w3 ⟨rfl, b3⟩
    go_wp2
    go_ret
    exact ⟨rfl, b1.trans (b3.mono (by omega))⟩
  have d0 : decide (1099511627776 < z) = false := decide_eq_false h0
  by_cases h1 : z < 0
  · have hs := fun w => size_any z (by omega) w
    rw [show z.toNat = 0 by omega, show ((sz 0 : Nat) : Int) = 2 by decide] at hs
    have d1 : decide (z < 0) = true := decide_eq_true h1
    go_enter Try.func7, Try.ntmps7
    go_wp2_with fail
    refine (awake_any _).mono ?_
    rintro e w1 ⟨rfl, b1⟩
    go_wp2_with fail
    refine (hs _).mono ?_
    rintro e w2 ⟨rfl, rfl⟩
    go_wp2
    go_loop [4] (fun pv => pv = .int .i64 2) (fun _ => 0)
    case atStart => rfl
    case round =>
      obtain rfl := hrel
      go_wp2
      go_ret
      exact ⟨rfl, b1⟩
  · obtain ⟨N, rfl⟩ : ∃ N : Nat, z = (N : Int) := ⟨z.toNat, by omega⟩
    have hs := fun w => size_any (N : Int) (by omega) w
    rw [show ((N : Int) : Int).toNat = N by omega] at hs
    have h2 := sz_two N
    have hh := sz_half N
    have hg := sz_ge N
    have ht := sz_top (n := N) (k := 40) (by omega)
    have HL := Lib.hid (fun i (h : i ≤ blen (N - 1)) => sizes_step h)
    generalize sz N = s at hs h2 hh hg ht HL
    have hN : N ≤ 1099511627776 := by omega
    have ht1 : (s : Int) ≤ 2199023255552 := by omega
    have hg1 : 2 * (N : Int) ≤ (s : Int) := by omega
    have d9 : decide (2 * (N : Int) ≤ (s : Int)) = true := decide_eq_true hg1
    go_enter Try.func7, Try.ntmps7
    go_wp2_with fail
    refine (awake_any _).mono ?_
    rintro e w1 ⟨rfl, b1⟩
    go_wp2_with fail
    refine (hs _).mono ?_
    rintro e w2 ⟨rfl, rfl⟩
    go_wp2
    go_loop [4] (fun pv => ∃ p i : Nat, i ≤ blen (N - 1) ∧ p = 2 ^ (i + 1) ∧ pv = .int .i64 (p : Int)) (fun pv => s - (intOf pv).toNat)
    case atStart => exact ⟨2, 0, by omega, rfl, rfl⟩
    case round =>
      obtain ⟨p, i, hi, hp, rfl⟩ := hrel
      rcases HL.out i hi with ⟨h3, h4, h5⟩ | h3
      · have HP := Lib.hid hp
        have hp0 : 0 < p := by rw [hp]; exact Nat.two_pow_pos _
        rw [← hp] at h4 h5
        clear hp
        have i1 : (p : Int) < (s : Int) := by omega
        have i2 : (p : Int) < 4398046511104 := by omega
        have d1 : decide ((p : Int) < (s : Int)) = true := decide_eq_true i1
        have d2 : decide ((p : Int) < 4398046511104) = true := decide_eq_true i2
        go_wp2
        go_round
        case rel => exact ⟨p * 2, i + 1, h3, by rw [HP.out]; rfl, by go_num⟩
        case measure => simp [intOf]; omega
      · rw [← hp] at h3
        subst h3
        clear hp
        have d1 : decide ((s : Int) < (s : Int)) = false := decide_eq_false (by omega)
        by_cases h4 : s = 2
        · subst h4
          go_wp2
          go_ret
          exact ⟨rfl, b1⟩
        · have h5 : s / 2 < 2 * N := by omega
          have d3 : ((s : Int) == 2) = false := by rw [beq_eq_false_iff_ne]; omega
          have d4 : decide ((s : Int) / 2 < 2 * (N : Int)) = true := decide_eq_true (by omega)
          go_wp2
          go_ret
          exact ⟨rfl, b1⟩

theorem count_step {T : List Int} {i : Nat} {v : Int} (hv : T[i]? = some v) : (T.take (i + 1)).countP fullB = (T.take i).countP fullB + (if v = 0 then 0 else 1) := by
  obtain ⟨h, rfl⟩ := List.getElem?_eq_some_iff.1 hv
  rw [List.take_succ_eq_append_getElem h, List.countP_append]
  congr 1
  by_cases e : T[i] = 0
  · rw [if_pos e]
    simp [fullB, e]
  · rw [if_neg e]
    simp [fullB, e]
theorem count_le (T : List Int) (i : Nat) : (T.take i).countP fullB ≤ i := Nat.le_trans List.countP_le_length (by rw [List.length_take]; omega)
theorem count_all {T : List Int} {i : Nat} (h : T.length ≤ i) : (T.take i).countP fullB = T.countP fullB := by rw [List.take_of_length_le h]
set_option maxHeartbeats 2000000 in
theorem looksLaw_any (a : Option Addr) (ks : List ByteArray) (c : Nat) (k : ByteArray) (w : World) (hK : Keys w a ks) (hs : ∀ x ∈ ks, x.size ≤ maxLen) (hk : k.size ≤ maxLen) : Calls Try.prog 5 #[.slice a ks.length c, .string k] w fun e w' => e = .returned (.bool true) ∧ Below w.heap.size w w' := by
  have hfw := fun w' hK' => few_any a ks c w' hK' hs
  unfold maxLen at hk
  by_cases h1 : FewK ks
  · rw [fewV_yes h1] at hfw
    by_cases h2 : k.size ≤ 40
    · have d2 : decide (40 < (k.size : Int)) = false := decide_eq_false (by omega)
      have hb := fun w' hK' => build_any a ks c w' hK' (by have := h1.1; omega) (fun x hx => by have := h1.2 x hx; omega)
      have hlen := build_short h1.1
      have hf := fun g w' (hT : Tab w' g (build ks)) hK' => find_any (some ⟨g, 0, none⟩) (build ks) (build ks).length a ks c k w' hT.nums hK' (build_64 (by have := h1.1; omega)) (by have := h1.1; omega) (by omega) (by omega)
      have hlk := looked_few ks k
      have hct := build_count ks
      have hge := sz_ge ks.length
      rw [← build_length ks] at hge
      have hl := h1.1
      generalize build ks = T at hb hf hlen hct hge hlk
      generalize place T ks k = P at hf
      generalize looked T ks k = L at hf hlk
      have d4 : decide ((L : Int) ≤ (ks.length : Int) + 1) = true := decide_eq_true (by omega)
      have d5 : decide (2 * (ks.length : Int) ≤ (T.length : Int)) = true := decide_eq_true (by omega)
      have HCt := Lib.hid hct
      have hge1 : 2 * (ks.length : Int) ≤ (T.length : Int) := by omega
      have hlk1 : (L : Int) ≤ (ks.length : Int) + 1 := by omega
      clear hct hge hlk
      go_enter Try.func5, Try.ntmps5
      go_wp2_with fail
      refine (awake_any _).mono ?_
      rintro e w1 ⟨rfl, b1⟩
      have s1 := b1.size
      have k1 := hK.below b1
      go_wp2_with fail
      refine (hfw _ k1).mono ?_
      rintro e w2 ⟨rfl, rfl⟩
      go_wp2_with fail
      refine (hb _ k1).mono ?_
      rintro e w3 ⟨g, rfl, hg3, t3, b3⟩
      have s3 := b3.size
      have k3 := k1.below b3
      go_wp2_with fail
      refine (hf _ _ t3 k3).mono ?_
      rintro e w4 ⟨rfl, rfl⟩
      have HT := Lib.hid t3
      clear t3
      go_wp2
      go_loop [8, 9] (fun fv iv => ∃ i f : Nat, i ≤ T.length ∧ iv = .int .i64 (i : Int) ∧ fv = .int .i64 (f : Int) ∧ f ≤ i ∧ Hid ((T.take i).countP fullB = f)) (fun _ iv => T.length - (intOf iv).toNat)
      case atStart => exact ⟨0, 0, by omega, rfl, rfl, by omega, Lib.hid rfl⟩
      case round =>
        obtain ⟨i, f, hi, rfl, rfl, hfi, HF⟩ := hrel
        by_cases h3 : i < T.length
        · have i1 : (i : Int) < (T.length : Int) := by omega
          obtain ⟨v, hv⟩ : ∃ v, T[i]? = some v := ⟨_, List.getElem?_eq_getElem h3⟩
          have hcell : w3.cell? ⟨g, i, none⟩ = some (.int .i64 v) := by
            rw [HT.out.cell i h3]
            rw [List.getElem?_eq_getElem h3] at hv
            rw [Option.some.inj hv]
          have HCs := Lib.hid (count_step hv)
          clear hv
          by_cases h4 : v = 0
          · subst h4
            have HC2 : Hid ((T.take (i + 1)).countP fullB = f) := Lib.hid (by rw [HCs.out, HF.out]; rfl)
            clear HCs
            go_wp2
            go_round
            case rel => exact ⟨i + 1, f, by omega, by go_num, rfl, by omega, HC2⟩
            case measure => simp [intOf]; omega
          · have HC2 : Hid ((T.take (i + 1)).countP fullB = f + 1) := Lib.hid (by rw [HCs.out, HF.out, if_neg h4])
            have e1 : (v != 0) = true := by simpa using h4
            clear HCs
            go_wp2
            go_round
            case rel => exact ⟨i + 1, f + 1, by omega, by go_num, by go_num, by omega, HC2⟩
            case measure => simp [intOf]; omega
        · have i1 : ¬ (i : Int) < (T.length : Int) := by omega
          have hfk : f = ks.length := by rw [← HF.out, count_all (by omega), HCt.out]
          subst hfk
          go_wp2
          go_ret
          exact ⟨rfl, b1.trans (b3.mono (by omega))⟩
    · have d2 : decide (40 < (k.size : Int)) = true := decide_eq_true (by omega)
      go_enter Try.func5, Try.ntmps5
      go_wp2_with fail
      refine (awake_any _).mono ?_
      rintro e w1 ⟨rfl, b1⟩
      have s1 := b1.size
      go_wp2_with fail
      refine (hfw _ (hK.below b1)).mono ?_
      rintro e w2 ⟨rfl, rfl⟩
      go_wp2_with fail
      refine (awake_any _).mono ?_
      rintro e w3 ⟨rfl, b3⟩
      go_wp2
      go_ret
      exact ⟨rfl, b1.trans (b3.mono (by omega))⟩
  · rw [fewV_no h1] at hfw
    go_enter Try.func5, Try.ntmps5
    go_wp2_with fail
    refine (awake_any _).mono ?_
    rintro e w1 ⟨rfl, b1⟩
    have s1 := b1.size
    go_wp2_with fail
    refine (hfw _ (hK.below b1)).mono ?_
    rintro e w2 ⟨rfl, rfl⟩
    go_wp2_with fail
    refine (awake_any _).mono ?_
    rintro e w3 ⟨rfl, b3⟩
    go_wp2
    go_ret
    exact ⟨rfl, b1.trans (b3.mono (by omega))⟩
end Go.Proofs.Ytpgnknbkedmgfaa
