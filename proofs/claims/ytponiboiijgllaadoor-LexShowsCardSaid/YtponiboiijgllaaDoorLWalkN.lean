/- What the reference's Lines answers of any text. Condition: the text has at most 1000000 bytes. -/
import Derived.Test.YtponiboiijgllaaDoorLWalkM
namespace Go.Proofs.YtponiboiijgllaaDoor
open Go.RowKit
set_option maxRecDepth 100000

theorem refwords_some (s : ByteArray) (w : World) (hs : s.size ≤ 1000000) (u : List Bx) (h : wordsL s.data.toList = some u) :
    Calls Tryd.prog 23 #[.string s] w fun e w' => ∃ a c, e = .returned (.tuple #[.slice a u.length c, .bool true]) ∧ OwnT 43 3 w' w.heap.size (.slice a u.length c) u.length (refRow u) ∧ Below w.heap.size w w' ∧ u.length ≤ s.size := by
  refine (refwords_any s w hs).mono ?_
  rintro e w' ⟨hb, ⟨v, u', hu, rfl, ho, hl⟩ | ⟨hu, _⟩⟩
  · rw [h] at hu
    obtain rfl := Option.some.inj hu
    obtain ⟨a, c, rfl⟩ := ho.isSlice
    rw [len_data] at hl
    exact ⟨a, c, rfl, ho, hb, hl⟩
  · rw [h] at hu; cases hu
theorem refwords_bad (s : ByteArray) (w : World) (hs : s.size ≤ 1000000) (h : wordsL s.data.toList = none) :
    Calls Tryd.prog 23 #[.string s] w fun e w' => e = .returned (.tuple #[.slice none 0 0, .bool false]) ∧ Below w.heap.size w w' := by
  refine (refwords_any s w hs).mono ?_
  rintro e w' ⟨hb, ⟨v, u', hu, rfl, ho, hl⟩ | ⟨hu, rfl⟩⟩
  · rw [h] at hu; cases hu
  · exact ⟨rfl, hb⟩
/-- The lines from a place on; none behind the text's end. -/
def restL (s : ByteArray) (f : Nat) : List (List UInt8) := if f ≤ s.size then splitNL (s.data.toList.drop f) else []
theorem restL_zero (s : ByteArray) : restL s 0 = splitNL s.data.toList := by unfold restL; rw [if_pos (Nat.zero_le _), List.drop_zero]
theorem restL_end (s : ByteArray) : restL s (s.size + 1) = [] := by unfold restL; rw [if_neg (by omega)]
/-- No line ends between two places. -/
def NoEnd (s : ByteArray) (f k : Nat) : Prop := ∀ j (h : j < s.size), f ≤ j → j < k → (s[j]'h).toNat ≠ 10
theorem mid_no {s : ByteArray} {f k : Nat} (hk : k ≤ s.size) (h : NoEnd s f k) : ∀ c ∈ (s.extract f k).data.toList, c.toNat ≠ 10 := by
  intro c hc
  simp only [ByteArray.data_extract, Array.toList_extract, List.extract_eq_take_drop] at hc
  obtain ⟨j, hj, e⟩ := List.getElem_of_mem hc
  rw [List.length_take, List.length_drop, len_data] at hj
  rw [List.getElem_take, List.getElem_drop] at e
  have := h (f + j) (by omega) (by omega) (by omega)
  rw [← e]
  exact this
theorem restL_line {s : ByteArray} {f k : Nat} (hfk : f ≤ k) (hk : k ≤ s.size) (h : NoEnd s f k) (hc : k = s.size ∨ ∃ hk : k < s.size, (s[k]'hk).toNat = 10) : restL s f = (s.extract f k).data.toList :: restL s (k + 1) := by
  have hm := mid_no hk h
  have e : s.data.toList.drop f = (s.extract f k).data.toList ++ s.data.toList.drop k := by
    simp only [ByteArray.data_extract, Array.toList_extract, List.extract_eq_take_drop]
    conv => lhs; rw [← List.take_append_drop (k - f) (s.data.toList.drop f)]
    rw [List.drop_drop, show f + (k - f) = k by omega]
  unfold restL
  rw [if_pos (by omega), e]
  rcases hc with rfl | ⟨hk', h10⟩
  · rw [List.drop_eq_nil_of_le (by rw [len_data]; omega), List.append_nil, splitNL_line _ hm, if_neg (by omega)]
  · rw [drop_at hk', (u8_eq _ 10 (by omega)).2 h10, if_pos (by omega)]
    exact splitNL_cut _ _ hm

set_option maxHeartbeats 4000000 in
theorem reflines_any (s : ByteArray) (w : World) (hs : s.size ≤ 1000000) :
    Calls Tryd.prog 9 #[.string s] w (LinesRes 35 43 3 refRow s.data.toList w) := by
  by_cases hl : 20000 < s.size
  · have hl' : (20000 : Int) < (s.size : Int) := by omega
    go_enter Tryd.func9, Tryd.ntmps9
    go_wp2
    exact bodyPost_ret (v := .tuple #[.slice none 0 0, .int .i64 0, .int .i64 1]) (by simp [results, Tryd.results9, go_sem]) rfl ⟨Below.refl _ _, .inl ⟨by rw [len_data]; exact hl, rfl⟩⟩
  · have hl' : (s.size : Int) ≤ 20000 := by omega
    have HSL : s.data.toList.length ≤ 20000 := by rw [len_data]; omega
    obtain ⟨X, hX⟩ : ∃ X, X = splitNL s.data.toList := ⟨_, rfl⟩
    have HX := Lib.hid hX
    have HR0 : Hid (restL s 0 = X) := Lib.hid (by rw [hX]; exact restL_zero s)
    clear hX
    go_enter Tryd.func9, Tryd.ntmps9
    go_wp2
    go_loopw [5, 6, 7, 8] (fun v fv nv iv wr => ∃ (k f no : Nat) (ps : List (Nat × Value)) (ls : List (Nat × List Bx)), fv = .int .i64 f ∧ nv = .int .i64 no ∧ iv = .int .i64 k ∧ k ≤ s.size + 1 ∧ f ≤ k ∧ (k ≤ s.size ∨ f = k) ∧ no ≤ f + 1 ∧ Hid (NoEnd s f k) ∧ OwnT 35 2 wr w.heap.size v ps.length (lineRow ps) ∧ PairsI 43 3 refRow wr w.heap.size ps ls ∧ Below w.heap.size w wr ∧ Hid (ls ++ goodL no (restL s f) = goodL 1 X) ∧ Hid (badAt no (restL s f) = badAt 1 X) ∧ ps.length ≤ f ∧ 1 ≤ no) (fun _ _ _ iv _ => s.size + 1 - (intOf iv).toNat)
    case atStart => exact ⟨0, 0, 1, [], [], rfl, rfl, rfl, by omega, by omega, .inl (by omega), by omega, Lib.hid (fun j h a b => by omega), OwnT.nil _ _ _ _, ⟨rfl, fun i p q hp _ => by simp at hp⟩, Below.refl _ _, Lib.hid (by rw [HR0.out]; rfl), Lib.hid (by rw [HR0.out]), by simp, by omega⟩
    case round =>
      obtain ⟨k, f, no, ps, ls, rfl, rfl, rfl, hk, hfk, hor, hno, HN, hown, hpa, hbw, HG, HB, hpk, hno1⟩ := hrel
      have hsz := hbw.size
      by_cases hp : k ≤ s.size
      · have hi : (k : Int) ≤ (s.size : Int) := by omega
        have hi2 : (f : Int) ≤ (k : Int) := by omega
        by_cases hmore : ∃ h : k < s.size, (s[k]'h).toNat ≠ 10
        · obtain ⟨hlt, h10⟩ := hmore
          have hlt' : (k : Int) < (s.size : Int) := by omega
          have t10 : (((s[k]'hlt).toNat : Int) != 10) = true := by simp; omega
          have HN2 : Hid (NoEnd s f (k + 1)) := Lib.hid (fun j h a b => by
            by_cases e : j = k
            · subst e; exact h10
            · exact HN.out j h a (by omega))
          clear h10
          go_wp2
          go_roundw
          case rel => exact ⟨k + 1, f, no, ps, ls, rfl, rfl, by go_num, by omega, by omega, .inl (by omega), hno, HN2, hown, hpa, hbw, HG, HB, hpk, hno1⟩
          case measure => simp [intOf]; omega
        · have hend : k = s.size ∨ ∃ hk : k < s.size, (s[k]'hk).toNat = 10 := by
            by_cases h : k < s.size
            · refine .inr ⟨h, ?_⟩
              by_cases h' : (s[k]'h).toNat = 10
              · exact h'
              · exact absurd ⟨h, h'⟩ hmore
            · exact .inl (by omega)
          have HD := Lib.hid (restL_line hfk hp HN.out hend)
          have hway : (¬ (k : Int) < (s.size : Int)) ∨ (∃ hk : k < s.size, (k : Int) < (s.size : Int) ∧ (((s[k]'hk).toNat : Int) != 10) = false) := by
            rcases hend with h | ⟨h, h10⟩
            · exact .inl (by omega)
            · exact .inr ⟨h, by omega, by simp; omega⟩
          have HN2 : Hid (NoEnd s (k + 1) (k + 1)) := Lib.hid (fun j h a b => by omega)
          clear hend hmore
          obtain ⟨L, hL⟩ : ∃ L, L = s.extract f k := ⟨_, rfl⟩
          have hLs : L.size ≤ 1000000 := by rw [hL]; simp; omega
          rw [← hL] at HD
          cases hw : wordsL L.data.toList with
          | none =>
            have HE : Hid (badAt 1 X = no) := Lib.hid (by rw [← HB.out, HD.out, badAt_none hw])
            have hW : ∀ W, Calls Tryd.prog 23 #[.string (s.extract f k)] W fun e w' => e = .returned (.tuple #[.slice none 0 0, .bool false]) ∧ Below W.heap.size W w' := fun W => by rw [← hL]; exact refwords_bad L W hLs hw
            clear hw hL
            rcases hway with hq | ⟨hq, hq', tq⟩
            all_goals
              go_wp2_with fail
              refine (hW _).mono ?_
              rintro e w1 ⟨rfl, b1⟩
              go_wp2
              refine bodyPost_ret (v := .tuple #[.slice none 0 0, .int .i64 (badAt 1 X), .int .i64 7]) (by simp [results, Tryd.results9, go_sem, HE.out]) rfl ⟨hbw.trans (b1.mono hsz), .inr (.inl ⟨HSL, ?_, ?_⟩)⟩
              · rw [← HX.out, HE.out]; omega
              · rw [← HX.out]
          | some u =>
            have HB2 : Hid (badAt (no + 1) (restL s (k + 1)) = badAt 1 X) := Lib.hid (by rw [← HB.out, HD.out, badAt_some hw])
            have hW : ∀ W, Calls Tryd.prog 23 #[.string (s.extract f k)] W fun e w' => ∃ a c, e = .returned (.tuple #[.slice a u.length c, .bool true]) ∧ OwnT 43 3 w' W.heap.size (.slice a u.length c) u.length (refRow u) ∧ Below W.heap.size W w' ∧ u.length ≤ L.size := fun W => by rw [← hL]; exact refwords_some L W hLs u hw
            by_cases hu : u = []
            · subst hu
              have HG2 : Hid (ls ++ goodL (no + 1) (restL s (k + 1)) = goodL 1 X) := Lib.hid (by rw [← HG.out, HD.out, goodL_none hw])
              clear hw hL
              rcases hway with hq | ⟨hq, hq', tq⟩
              all_goals
                go_wp2_with fail
                refine (hW _).mono ?_
                rintro e w1 ⟨a, c, rfl, ho, b1, _⟩
                have hown1 := hown.below b1
                have hpa1 := hpa.keep fun _ _ _ h => h.below b1
                clear ho
                go_wp2
                go_roundw
                case rel => exact ⟨k + 1, k + 1, no + 1, ps, ls, by go_num, by go_num, by go_num, by omega, by omega, .inr rfl, by omega, HN2, hown1, hpa1, hbw.trans (b1.mono hsz), HG2, HB2, by omega, by omega⟩
                case measure => simp [intOf]; omega
            · have HG2 : Hid ((ls ++ [(no, u)]) ++ goodL (no + 1) (restL s (k + 1)) = goodL 1 X) := Lib.hid (by rw [← HG.out, HD.out, goodL_some hw hu]; simp)
              have hul : 0 < u.length := List.length_pos_iff.2 hu
              have hul' : (0 : Int) < (u.length : Int) := by omega
              clear hw hu hL
              rcases hway with hq | ⟨hq, hq', tq⟩
              all_goals
                go_wp2_with fail
                refine (hW _).mono ?_
                rintro e w1 ⟨a, c, rfl, ho, b1, hus⟩
                have s1 := b1.size
                have hown1 := hown.below b1
                have hpa1 := hpa.keep fun _ _ _ h => h.below b1
                go_wp2_with (at_builtin; refine wpList_append_line 27 35 (.inr ⟨rfl, rfl⟩) rfl (.tmp 44) (.tmp 48) rfl w.heap.size _ ps rfl (hown1.alloc _) ⟨w1.heap.size, 0, none⟩ 1 (no, .slice a u.length c) ⟨_, _, _, rfl⟩ rfl (cells_two w1 _ _ _) (by omega) (by simp; omega) ?_)
                intro v' w4 hown4 hgrow
                go_wp2
                go_roundw
                case rel =>
                  have ho4 := ((ho.base hsz).alloc (.cells #[.int .i64 no, .slice a u.length c] 35)).other (hown1.alloc _) (by decide) hgrow
                  have hp4 := (hpa1.keep fun _ _ _ h => (h.alloc _).other (hown1.alloc _) (by decide) hgrow).snoc (n := no) ho4
                  exact ⟨k + 1, k + 1, no + 1, ps ++ [(no, .slice a u.length c)], ls ++ [(no, u)], by go_num, by go_num, by go_num, by omega, by omega, .inr rfl, by omega, HN2, by rw [List.length_append]; exact hown4, hp4, below_own (hbw.trans (b1.mono hsz)) hown1 hgrow, HG2, HB2, by simp; omega, by omega⟩
                case measure => simp [intOf]; omega
      · have hi : ¬ (k : Int) ≤ (s.size : Int) := by omega
        have hf : f = s.size + 1 := by omega
        have HE : Hid (goodL 1 X = ls) := Lib.hid (by rw [← HG.out, hf, restL_end]; simp [goodL])
        have HE2 : Hid (badAt 1 X = 0) := Lib.hid (by rw [← HB.out, hf, restL_end]; simp [badAt])
        clear hf
        obtain ⟨a, c, rfl⟩ := hown.isSlice
        go_wp2
        refine bodyPost_ret (v := .tuple #[.slice a ps.length c, .int .i64 0, .int .i64 0]) (by simp [results, Tryd.results9, go_sem]) rfl ⟨hbw, .inr (.inr ⟨HSL, ?_, _, rfl, ?_⟩)⟩
        · rw [← HX.out]; exact HE2.out
        · rw [← HX.out, HE.out]
          exact ⟨ps, hown, hpa⟩
end Go.Proofs.YtponiboiijgllaaDoor
