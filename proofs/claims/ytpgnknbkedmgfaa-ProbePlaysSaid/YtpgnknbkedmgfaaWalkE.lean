/- What the reference's Find answers of whatever numbers as a table: what the code's answers. Conditions: at most 1000000 numbers and keys, which stand in memory. -/
import Derived.Test.YtpgnknbkedmgfaaWalkD
namespace Go.Proofs.Ytpgnknbkedmgfaa
open Go.RowKit Go.Op
set_option maxRecDepth 100000

theorem fin_first (T : List Int) (k : ByteArray) (j : Nat) : (sum k % T.length + j) % T.length = (first T k + j) % T.length := rfl
set_option maxHeartbeats 4000000 in
theorem reffind_any (a : Option Addr) (T : List Int) (c : Nat) (b : Option Addr) (ks : List ByteArray) (d : Nat) (k : ByteArray) (w : World) (hT : Nums w a T) (hK : Keys w b ks) (h64 : ∀ x ∈ T, In64 x) (hl : ks.length ≤ 1000000) (hm : T.length ≤ 1000000) (hk : k.size ≤ 1000000) :
    Calls Try.prog 12 #[.slice a T.length c, .slice b ks.length d, .string k] w fun e w' => e = .returned (.tuple #[.int .i64 (place T ks k), .int .i64 (looked T ks k : Nat)]) ∧ w = w' := by
  have hz := fun w => refsize_any ks.length (by omega) w
  by_cases e0 : T.length = sz ks.length
  · have h2 := sz_two ks.length
    have hf := fun i (hi : i ≤ 1000000) w => slot_any T.length k i hk (by omega) (by omega) (by omega) w
    have hfl : first T k < T.length := first_lt (by omega)
    have hst := stop_le T ks k
    have HE := Lib.hid (answer_end (k := k) e0)
    have HR := Lib.hid (fun j (h : j ≤ stop T ks k) (hj : j < T.length) => round_stop h hj)
    have HA := Lib.hid (fun j v (hj : stop T ks k = j) (hlt : j < T.length) (hv : T[(first T k + j) % T.length]? = some v) => answer_at (v := v) e0 hj hlt hv)
    have HT := Lib.hid hT
    have HK := Lib.hid hK
    have H64 := Lib.hid h64
    have HF := Lib.hid hf
    rw [← e0] at hz
    clear e0 hT hK h64 hf
    go_enter Try.func12, Try.ntmps12
    go_wp2_with fail
    refine (hz _).mono ?_
    rintro e w1 ⟨rfl, rfl⟩
    go_wp2
    go_loop [8] (fun jv => ∃ j : Nat, j ≤ stop T ks k ∧ j ≤ T.length ∧ jv = .int .i64 (j : Int)) (fun jv => T.length - (intOf jv).toNat)
    case atStart => exact ⟨0, by omega, by omega, rfl⟩
    case round =>
      obtain ⟨j, hj, hjm, rfl⟩ := hrel
      by_cases h1 : j < T.length
      · have i1 : (j : Int) < (T.length : Int) := by omega
        obtain ⟨v, hv, hcase⟩ := HR.out j hj h1
        have HV := Lib.hid hv
        have hpl : (first T k + j) % T.length < T.length := Nat.mod_lt _ (by omega)
        have hsl := fun w => HF.out j (by omega) w
        simp only [fin_first] at hsl
        have hv64 : In64 v := H64.out v (List.mem_of_getElem? hv)
        have hcl : ∃ g off, a = some ⟨g, off, none⟩ ∧ w.cell? ⟨g, off + (first T k + j) % T.length, none⟩ = some (.int .i64 v) := by
          rcases HT.out with h0 | ⟨g, off, rfl, _, hc⟩
          · rw [h0] at h1; simp at h1
          · refine ⟨g, off, rfl, ?_⟩
            rw [hc _ hpl]
            rw [List.getElem?_eq_getElem hpl] at hv
            rw [Option.some.inj hv]
        obtain ⟨g, off, rfl, hcell⟩ := hcl
        have HA2 := Lib.hid (fun (hs : stop T ks k = j) => HA.out j v hs h1 hv)
        clear hv
        generalize (first T k + j) % T.length = p at hpl hsl hcell HV
        have hpl1 : (p : Int) < (T.length : Int) := by omega
        obtain ⟨v0, v1⟩ := hv64
        by_cases h2 : v = 0
        · have h3 : stop T ks k = j := by
            rcases hcase with ⟨_, h3⟩ | ⟨h3, _⟩ | ⟨h3, _⟩
            · exact h3
            · exact absurd h2 h3
            · exact absurd h2 h3
          have HX := Lib.hid (HA2.out h3)
          subst h2
          have e1 : ((0 : Int) == 0) = true := rfl
          clear h3 hcase
          go_wp2_with fail
          refine (hsl _).mono ?_
          rintro e w1 ⟨rfl, rfl⟩
          go_wp2
          go_ret2
          exact ⟨ret_two (by rw [HX.out.1]; rfl) (by rw [HX.out.2]; rfl), rfl⟩
        · have e1 : (v == 0) = false := by simpa using h2
          have hc2 : (leadsB ks k v = true ∧ stop T ks k = j) ∨ (leadsB ks k v = false ∧ j + 1 ≤ stop T ks k) := by
            rcases hcase with ⟨h3, _⟩ | ⟨_, h3⟩ | ⟨_, h3⟩
            · exact absurd h3 h2
            · exact .inl h3
            · exact .inr h3
          clear hcase
          by_cases h3 : 0 < v ∧ v ≤ (ks.length : Int)
          · obtain ⟨h3, h4⟩ := h3
            obtain ⟨q, rfl⟩ : ∃ q : Nat, v = (q : Int) + 1 := ⟨(v - 1).toNat, by omega⟩
            have hq : q < ks.length := by omega
            rw [leads_at hq] at hc2
            have hkc : ∃ g2 off2, b = some ⟨g2, off2, none⟩ ∧ w.cell? ⟨g2, off2 + q, none⟩ = some (.string ks[q]) := by
              rcases HK.out with h0 | ⟨g2, off2, rfl, _, hc⟩
              · rw [h0] at hq; simp at hq
              · exact ⟨g2, off2, rfl, hc q hq⟩
            obtain ⟨g2, off2, rfl, hkcell⟩ := hkc
            generalize ks[q] = x at hc2 hkcell
            have d1 : decide ((1 : Int) ≤ (q : Int) + 1) = true := decide_eq_true (by omega)
            have d2 : decide ((q : Int) + 1 ≤ (ks.length : Int)) = true := decide_eq_true h4
            have HV2 := Lib.hid h2
            rw [← same_text] at hc2
            rcases hc2 with ⟨h5, h6⟩ | ⟨h5, h6⟩
            · have HX := Lib.hid (HA2.out h6)
              clear h6 h2
              go_wp2_with fail
              refine (hsl _).mono ?_
              rintro e w1 ⟨rfl, rfl⟩
              go_wp2
              go_ret2
              exact ⟨ret_two (by rw [HX.out.1, if_neg HV2.out]; omega) (by rw [HX.out.2]; rfl), rfl⟩
            · clear h2
              go_wp2_with fail
              refine (hsl _).mono ?_
              rintro e w1 ⟨rfl, rfl⟩
              go_wp2
              go_round
              case rel => exact ⟨j + 1, by omega, by omega, by go_num⟩
              case measure => simp [intOf]; omega
          · have h5 : j + 1 ≤ stop T ks k := by
              rw [leads_no h3] at hc2
              rcases hc2 with ⟨h5, _⟩ | ⟨_, h5⟩
              · cases h5
              · exact h5
            clear hc2
            by_cases h6 : 1 ≤ v
            · have h7 : ¬ v ≤ (ks.length : Int) := fun h => h3 ⟨by omega, h⟩
              have d1 : decide ((1 : Int) ≤ v) = true := decide_eq_true h6
              have d2 : decide (v ≤ (ks.length : Int)) = false := decide_eq_false h7
              clear h3 h2
              go_wp2_with fail
              refine (hsl _).mono ?_
              rintro e w1 ⟨rfl, rfl⟩
              go_wp2
              go_round
              case rel => exact ⟨j + 1, by omega, by omega, by go_num⟩
              case measure => simp [intOf]; omega
            · have d1 : decide ((1 : Int) ≤ v) = false := decide_eq_false h6
              clear h3 h2
              go_wp2_with fail
              refine (hsl _).mono ?_
              rintro e w1 ⟨rfl, rfl⟩
              go_wp2
              go_round
              case rel => exact ⟨j + 1, by omega, by omega, by go_num⟩
              case measure => simp [intOf]; omega
      · have i1 : ¬ (j : Int) < (T.length : Int) := by omega
        have HX := Lib.hid (HE.out (by omega))
        go_wp2
        go_ret2
        exact ⟨ret_two (by rw [HX.out.1]) (by rw [HX.out.2]), rfl⟩
  · have HX := Lib.hid (answer_no (k := k) e0)
    have e1 : ((T.length : Int) != ((sz ks.length : Nat) : Int)) = true := by simp; omega
    have e2 : ¬ (T.length : Int) = ((sz ks.length : Nat) : Int) := by omega
    clear hT hK h64
    go_enter Try.func12, Try.ntmps12
    go_wp2_with fail
    refine (hz _).mono ?_
    rintro e w1 ⟨rfl, rfl⟩
    go_wp2
    go_ret2
    exact ⟨ret_two (by rw [HX.out.1]) (by rw [HX.out.2]; rfl), rfl⟩
end Go.Proofs.Ytpgnknbkedmgfaa
