/- What the reference's Unquote answers of a right text between quotes: what the code's answers. Condition: the text has at most 1000 bytes. -/
import Derived.Test.YtponiboiijgllaaDoorRWalkT
import Derived.Test.YtponiboiijgllaaDoorRWalkI
import Derived.Deep.RegionLaw
import Derived.IntWalk
namespace Go.Proofs.YtponiboiijgllaaDoor
open Go.RowKit
set_option maxRecDepth 100000
theorem news_row (w : World) (vs : Array Value) {l : List UInt8} (h : Lib.byteCells l = vs.toList) : ∀ j u, (Lib.byteCells l)[j]? = some u → (w.alloc (.cells vs 5)).cell? ((⟨w.heap.size, 0, none⟩ : Addr).add j) = some u := by
  intro j u hj
  rw [h] at hj
  rw [show (⟨w.heap.size, 0, none⟩ : Addr).add j = ⟨w.heap.size, j, none⟩ by simp [Addr.add]; rintro rfl; rfl]
  rw [Lib.cell_of_heap (alloc_new w (.cells vs 5)) j]
  simpa using hj


theorem within_get {s T : ByteArray} (hT : T = s.extract 1 (s.size - 1)) (j : Nat) (h : j < T.size) (h' : j + 1 < s.size) : T[j]'h = s[j + 1]'h' := by
  subst hT
  show (s.extract 1 (s.size - 1)).data[j]'h = s.data[j + 1]'h'
  simp [ByteArray.data_extract]
  congr 1
  omega

theorem esc_quote {T : ByteArray} {j : Nat} (h : j + 1 < T.size) (hc : (T[j + 1]'h).toNat = 34 ∨ (T[j + 1]'h).toNat = 92) : esc (T.data.toList.drop (j + 1)) = some (T[j + 1]'h, 1) := by
  rw [drop_get h, esc_cons, if_pos]
  rcases hc with k | k
  · exact .inl ((u8_eq _ 34 (by omega)).2 k)
  · exact .inr ((u8_eq _ 92 (by omega)).2 k)
theorem esc_end {T : ByteArray} {j : Nat} (h : ¬ j + 1 < T.size) : esc (T.data.toList.drop (j + 1)) = none := by
  rw [List.drop_eq_nil_of_le (by rw [len_data]; omega)]
  rfl
theorem esc_few {T : ByteArray} {j : Nat} (h : j + 1 < T.size) (h34 : (T[j + 1]'h).toNat ≠ 34) (h92 : (T[j + 1]'h).toNat ≠ 92) (hf : ¬ j + 3 < T.size) : esc (T.data.toList.drop (j + 1)) = none := by
  rw [drop_get h, esc_cons, if_neg (by rintro (k | k); exact h34 ((u8_eq _ 34 (by omega)).1 k); exact h92 ((u8_eq _ 92 (by omega)).1 k))]
  split
  · rfl
  · have : (T.data.toList.drop (j + 1 + 1)).length < 2 := by rw [List.length_drop, len_data]; omega
    revert this
    generalize T.data.toList.drop (j + 1 + 1) = t
    intro hl
    rcases t with _ | ⟨a, _ | ⟨b, t⟩⟩
    · rfl
    · rfl
    · simp at hl
      omega
theorem esc_other {T : ByteArray} {j : Nat} (h : j + 1 < T.size) (h34 : (T[j + 1]'h).toNat ≠ 34) (h92 : (T[j + 1]'h).toNat ≠ 92) (hx : (T[j + 1]'h).toNat ≠ 120) : esc (T.data.toList.drop (j + 1)) = none := by
  rw [drop_get h, esc_cons, if_neg (by rintro (k | k); exact h34 ((u8_eq _ 34 (by omega)).1 k); exact h92 ((u8_eq _ 92 (by omega)).1 k)), if_pos (show T[j + 1]'h ≠ 120 from fun k => hx ((u8_eq _ 120 (by omega)).1 k))]
theorem esc_x {T : ByteArray} {j : Nat} (h3 : j + 3 < T.size) (hx : (T[j + 1]'(by omega)).toNat = 120) :
    esc (T.data.toList.drop (j + 1)) = if hexv (T[j + 2]'(by omega)) < 16 ∧ hexv (T[j + 3]'h3) < 16 then some (UInt8.ofNat (16 * hexv (T[j + 2]'(by omega)) + hexv (T[j + 3]'h3)), 3) else none := by
  have e := (u8_eq _ 120 (by omega)).2 hx
  rw [drop_get (pos := j + 1) (by omega), drop_get (pos := j + 1 + 1) (by omega), drop_get (pos := j + 1 + 1 + 1) (by omega), esc_cons, e]
  rfl

theorem number_same (c : UInt8) (w : World) : Calls Tryd.prog 86 #[.int .u8 c.toNat] w fun e w' => e = .returned (.int .u8 (hexv c)) ∧ w = w' :=
  (number_any c w).mono fun _ _ h => ⟨h.1, h.2.symm⟩

set_option maxHeartbeats 8000000 in
set_option maxRecDepth 100000 in
theorem refunquote_good (s : ByteArray) (w : World) (hs : s.size ≤ 1000000) (hg : Good s) :
    Calls Tryd.prog 69 #[.string s] w fun e w' => e = .returned (resV (unq ((s.data.toList.drop 1).take (s.size - 2)))) ∧ Below w.heap.size w w' := by
  have h2 := hg.two
  have n1 : ((s.size : Int) - 1).toNat = s.size - 1 := by omega
  have t0 : (((s[0]'(by omega)).toNat : Int) != 34) = false := by simp; have := hg.first; omega
  have t1 : (((s[s.size - 1]'(by omega)).toNat : Int) != 34) = false := by simp; have := hg.last; omega
  have hrl : rightL s.data.toList < 0 := by rw [hg.right]; omega
  have hTd : (s.extract 1 (s.size - 1)).data.toList = (s.data.toList.drop 1).take (s.size - 2) := by
    simp only [ByteArray.data_extract, Array.toList_extract, List.extract_eq_take_drop]
    rw [show s.size - 1 - 1 = s.size - 2 by omega]
  rw [← hTd]
  obtain ⟨T, hTe⟩ : ∃ T, T = s.extract 1 (s.size - 1) := ⟨_, rfl⟩
  have hTs : T.size + 2 = s.size := by rw [hTe]; simp; omega
  rw [← hTe]
  have HTE := Lib.hid hTe
  clear hg hTd hTe
  go_enter Tryd.func69, Tryd.ntmps69
  go_wp2_with (go_at_call 85; refine (refright_any s _ (by omega)).mono ?_; rintro e w' ⟨rfl, rfl⟩)
  go_wp2
  go_loopw [5, 6] (fun v i wr => ∃ (j : Nat) (acc : List UInt8), i = .int .i64 (j + 1 : Nat) ∧ Owns wr w.heap.size v acc ∧ Below w.heap.size w wr ∧ Hid ((unq (T.data.toList.drop j)).map (acc ++ ·) = unq T.data.toList) ∧ j ≤ T.size ∧ acc.length ≤ j) (fun _ i _ => s.size - (intOf i).toNat)
  case atStart => exact ⟨0, [], rfl, World.ownsRow_nil _ _ _ _, Below.refl _ _, Lib.hid (by simp), by omega, by simp⟩
  case round =>
    obtain ⟨j, acc, rfl, hown, hbw, H, hj, hal⟩ := hrel
    have hsz := hbw.size
    rw [Int.natCast_add]
    by_cases hp : j < T.size
    · have hb1 : j + 1 < s.size := by omega
      have hg1 := within_get HTE.out j hp hb1
      have hu := u8_lt (s[j + 1]'hb1)
      have m1a : ((j : Nat) + 1 + 1 : Int).toNat = j + 2 := by omega
      have m1b : ((j : Nat) + 2 : Int).toNat = j + 2 := by omega
      have m2a : ((j : Nat) + 1 + 2 : Int).toNat = j + 3 := by omega
      have m2b : ((j : Nat) + 3 : Int).toNat = j + 3 := by omega
      have m3a : ((j : Nat) + 1 + 3 : Int).toNat = j + 4 := by omega
      have m3b : ((j : Nat) + 4 : Int).toNat = j + 4 := by omega
      by_cases hbad : (s[j + 1]'hb1).toNat = 34 ∨ (s[j + 1]'hb1).toNat < 32 ∨ (s[j + 1]'hb1).toNat = 127
      · have HN := Lib.hid (round_bad hp (by rw [hg1]; exact hbad) H.out)
        have hway : ((((s[j + 1]'hb1).toNat : Int) == 34) = true) ∨ (((((s[j + 1]'hb1).toNat : Int) == 34) = false) ∧ ((s[j + 1]'hb1).toNat : Int) < 32) ∨ (((((s[j + 1]'hb1).toNat : Int) == 34) = false) ∧ (32 : Int) ≤ ((s[j + 1]'hb1).toNat : Int) ∧ ((((s[j + 1]'hb1).toNat : Int) == 127) = true)) := by
          by_cases h : (s[j + 1]'hb1).toNat = 34
          · exact .inl (by simp; omega)
          · by_cases h' : (s[j + 1]'hb1).toNat < 32
            · exact .inr (.inl ⟨by simp; omega, by omega⟩)
            · exact .inr (.inr ⟨by simp; omega, by omega, by simp; omega⟩)
        clear hbad hg1
        rcases hway with t34 | ⟨t34, t32⟩ | ⟨t34, t32, t127⟩
        all_goals
          go_wp2
          go_ret2
          rw [HN.out]
          exact ⟨rfl, hbw⟩
      · have t34 : (((s[j + 1]'hb1).toNat : Int) == 34) = false := by simp; omega
        have t32 : (32 : Int) ≤ ((s[j + 1]'hb1).toNat : Int) := by omega
        have t127 : (((s[j + 1]'hb1).toNat : Int) == 127) = false := by simp; omega
        by_cases h92 : (s[j + 1]'hb1).toNat = 92
        · have t92 : (((s[j + 1]'hb1).toNat : Int) != 92) = false := by simp; omega
          have hT92 : (T[j]'hp).toNat = 92 := by rw [hg1]; exact h92
          have H92 := Lib.hid hT92
          clear h92 hg1 hT92 hbad
          by_cases hk1 : j + 1 < T.size
          · have hb2 : j + 2 < s.size := by omega
            have hg2 : T[j + 1]'hk1 = s[j + 2]'hb2 := within_get HTE.out (j + 1) hk1 hb2
            by_cases hq : (s[j + 2]'hb2).toNat = 34 ∨ (s[j + 2]'hb2).toNat = 92
            · have HN := Lib.hid (round_esc hp H92.out (esc_quote hk1 (by rw [hg2]; exact hq)) H.out)
              rw [hg2] at HN
              have hway : ((((s[j + 2]'hb2).toNat : Int) == 34) = true) ∨ (((((s[j + 2]'hb2).toNat : Int) == 34) = false) ∧ ((((s[j + 2]'hb2).toNat : Int) == 92) = true)) := by
                rcases hq with h | h
                · exact .inl (by simp; omega)
                · exact .inr ⟨by simp; omega, by simp; omega⟩
              clear hq hg2
              rcases hway with q34 | ⟨q34, q92⟩
              all_goals
                go_wp2_with (at_builtin; refine wpList_append_bytes rfl (.tmp 77) (.tmp 82) rfl w.heap.size _ acc rfl (hown.alloc _) ⟨wr.heap.size, 0, none⟩ 1 1 [s[j + 2]'hb2] rfl rfl (news_one _ _ _) (by omega) (by simp; omega) ?_)
                intro v' w3 hown' hgrow
                have b3 := below_append hbw hown hgrow
                go_wp2
                go_roundw
                case rel => exact ⟨j + 1 + 1, acc ++ [s[j + 2]'hb2], by go_num, hown', b3, HN, by omega, by simp; omega⟩
                case measure => simp [intOf]; omega
            · have q34 : (((s[j + 2]'hb2).toNat : Int) == 34) = false := by simp; omega
              have q92 : (((s[j + 2]'hb2).toNat : Int) == 92) = false := by simp; omega
              have g34 : (T[j + 1]'hk1).toNat ≠ 34 := by rw [hg2]; omega
              have g92 : (T[j + 1]'hk1).toNat ≠ 92 := by rw [hg2]; omega
              by_cases hk3 : j + 3 < T.size
              · have hb3 : j + 3 < s.size := by omega
                have hb4 : j + 4 < s.size := by omega
                have hg3 : T[j + 2]'(by omega) = s[j + 3]'hb3 := within_get HTE.out (j + 2) (by omega) hb3
                have hg4 : T[j + 3]'hk3 = s[j + 4]'hb4 := within_get HTE.out (j + 3) hk3 hb4
                by_cases hx : (s[j + 2]'hb2).toNat = 120
                · have tx : (((s[j + 2]'hb2).toNat : Int) != 120) = false := by simp; omega
                  have hE := esc_x hk3 (by rw [hg2]; exact hx)
                  rw [hg3, hg4] at hE
                  have v1 := hexv_le (s[j + 3]'hb3)
                  have v2 := hexv_le (s[j + 4]'hb4)
                  clear hq hg2 hg3 hg4 g34 g92 hx
                  by_cases hA : hexv (s[j + 3]'hb3) < 16
                  · have a1 : (((hexv (s[j + 3]'hb3) : Nat) : Int) == 16) = false := by simp; omega
                    by_cases hB : hexv (s[j + 4]'hb4) < 16
                    · have a2 : (((hexv (s[j + 4]'hb4) : Nat) : Int) == 16) = false := by simp; omega
                      rw [if_pos ⟨hA, hB⟩] at hE
                      have HN := Lib.hid (round_esc hp H92.out hE H.out)
                      obtain ⟨X, hX⟩ : ∃ X, X = UInt8.ofNat (16 * hexv (s[j + 3]'hb3) + hexv (s[j + 4]'hb4)) := ⟨_, rfl⟩
                      have hXv : Lib.byteCells [X] = (#[.int .u8 (((hexv (s[j + 3]'hb3) : Nat) : Int) * 16 + ((hexv (s[j + 4]'hb4) : Nat) : Int))] : Array Value).toList := by
                        have : ((X.toNat : Nat) : Int) = ((hexv (s[j + 3]'hb3) : Nat) : Int) * 16 + ((hexv (s[j + 4]'hb4) : Nat) : Int) := by
                          rw [hX]
                          simp
                          omega
                        simp [Lib.byteCells, this]
                      have HXV := Lib.hid hXv
                      rw [← hX] at HN
                      have p0 : IntKind.u8.wrap (((hexv (s[j + 3]'hb3) : Nat) : Int) * 16) = ((hexv (s[j + 3]'hb3) : Nat) : Int) * 16 := IntWalk.u8_in _ (by omega)
                      have p1 : IntKind.u8.wrap (((hexv (s[j + 3]'hb3) : Nat) : Int) * 16 + ((hexv (s[j + 4]'hb4) : Nat) : Int)) = ((hexv (s[j + 3]'hb3) : Nat) : Int) * 16 + ((hexv (s[j + 4]'hb4) : Nat) : Int) := IntWalk.u8_in _ (by omega)
                      have r2 : IntKind.i64.wrap ((j : Int) + 1 + 2) = (j : Int) + 1 + 2 := IntWalk.i64_in _ (by omega)
                      have r3 : IntKind.i64.wrap ((j : Int) + 1 + 3) = (j : Int) + 1 + 3 := IntWalk.i64_in _ (by omega)
                      have r4 : 0 ≤ (j : Int) + 1 + 2 := by omega
                      have r5 : (j : Int) + 1 + 2 < (s.size : Int) := by omega
                      have r6 : 0 ≤ (j : Int) + 1 + 3 := by omega
                      have r7 : (j : Int) + 1 + 3 < (s.size : Int) := by omega
                      clear hE hX hXv
                      go_wp2_with (go_at_call 86; refine (number_same _ _).mono ?_; rintro e w' ⟨rfl, rfl⟩)
                      go_region_law (first | (refine step_append_bytes rfl (.tmp 113) (.tmp 126) rfl w.heap.size u5 acc (by simp [Act.eval]) (hown.alloc _) ⟨wr.heap.size, 0, none⟩ 1 1 [X] (by simp [Act.eval]) rfl (news_row wr _ HXV.out) (by omega) (by simp; omega) ?_; intro v' w3 hown' hgrow) | (go_simp; go_at_call 86; refine (number_same _ _).mono ?_; rintro e w' ⟨rfl, rfl⟩))
                      all_goals
                        have b3 := below_append hbw.drew hown hgrow
                        go_wp2
                        go_roundw
                        case rel => exact ⟨j + 1 + 3, acc ++ [X], by go_num, hown', b3, HN, by omega, by simp; omega⟩
                        case measure => simp [intOf]; omega
                    · have a2 : (((hexv (s[j + 4]'hb4) : Nat) : Int) == 16) = true := by simp; omega
                      rw [if_neg (fun k => hB k.2)] at hE
                      have HN := Lib.hid (round_noesc hp H92.out hE H.out)
                      clear hE
                      go_wp2_with (go_at_call 86; refine (number_same _ _).mono ?_; rintro e w' ⟨rfl, rfl⟩)
                      go_ret2
                      rw [HN.out]
                      exact ⟨rfl, hbw⟩
                  · have a1 : (((hexv (s[j + 3]'hb3) : Nat) : Int) == 16) = true := by simp; omega
                    rw [if_neg (fun k => hA k.1)] at hE
                    have HN := Lib.hid (round_noesc hp H92.out hE H.out)
                    clear hE
                    go_wp2_with (go_at_call 86; refine (number_same _ _).mono ?_; rintro e w' ⟨rfl, rfl⟩)
                    go_ret2
                    rw [HN.out]
                    exact ⟨rfl, hbw⟩
                · have tx : (((s[j + 2]'hb2).toNat : Int) != 120) = true := by simp; omega
                  have HN := Lib.hid (round_noesc hp H92.out (esc_other hk1 g34 g92 (by rw [hg2]; exact hx)) H.out)
                  clear hq hg2 hg3 hg4 g34 g92 hx
                  go_wp2
                  go_ret2
                  rw [HN.out]
                  exact ⟨rfl, hbw⟩
              · have HN := Lib.hid (round_noesc hp H92.out (esc_few hk1 g34 g92 hk3) H.out)
                clear hq hg2 g34 g92
                go_wp2
                go_ret2
                rw [HN.out]
                exact ⟨rfl, hbw⟩
          · have HN := Lib.hid (round_noesc hp H92.out (esc_end hk1) H.out)
            go_wp2
            go_ret2
            rw [HN.out]
            exact ⟨rfl, hbw⟩
        · have t92 : (((s[j + 1]'hb1).toNat : Int) != 92) = true := by simp; omega
          have HN := Lib.hid (round_byte hp (by rw [hg1]; omega) (by rw [hg1]; omega) (by rw [hg1]; omega) (by rw [hg1]; omega) H.out)
          rw [hg1] at HN
          clear h92 hg1 hbad
          go_wp2_with (at_builtin; refine wpList_append_bytes rfl (.tmp 51) (.tmp 55) rfl w.heap.size _ acc rfl (hown.alloc _) ⟨wr.heap.size, 0, none⟩ 1 1 [s[j + 1]'hb1] rfl rfl (news_one _ _ _) (by omega) (by simp; omega) ?_)
          intro v' w3 hown' hgrow
          have b3 := below_append hbw hown hgrow
          go_wp2
          go_roundw
          case rel => exact ⟨j + 1, acc ++ [s[j + 1]'hb1], by go_num, hown', b3, HN, by omega, by simp; omega⟩
          case measure => simp [intOf]; omega
    · have HE : Hid (unq T.data.toList = some acc) := by
        have := H.out
        rw [List.drop_eq_nil_of_le (by rw [len_data]; omega), unq_nil] at this
        exact Lib.hid (by rw [← this]; simp)
      have hown2 := hown
      rcases hown2.2 with ⟨rfl, h0⟩ | ⟨g, cap, cur, rfl, _⟩
      · obtain rfl := List.eq_nil_of_length_eq_zero h0
        have hcv := run_convert_bytes_nil (P := Tryd.prog) wr 66 5 Tryd.underlying66 Tryd.underlying5 0 0 9 Tryd.underlying9
        clear hown hown2
        go_wp2
        go_ret2
        rw [HE.out]
        exact ⟨rfl, hbw⟩
      · have hcv := run_convert_bytes_back (P := Tryd.prog) wr 66 9 5 ⟨g, 0, none⟩ cap acc Tryd.underlying66 Tryd.underlying5 Tryd.underlying9 (fun j hj => World.ownsRow.cells hown (g := g) rfl j _ (by simp only [Lib.byteCells, List.getElem?_map, List.getElem?_eq_getElem hj]; rfl))
        clear hown hown2
        go_wp2
        go_ret2
        rw [HE.out]
        exact ⟨rfl, hbw⟩
end Go.Proofs.YtponiboiijgllaaDoor
