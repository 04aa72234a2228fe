/- What lex.Lines answers of any text. Conditions: the text has at most 1000000 bytes; the library's own variables are as a start leaves them. -/
import Derived.Test.YtponiboiijgllaaDoorLWalkK
namespace Go.Proofs.YtponiboiijgllaaDoor
open Go.RowKit
set_option maxRecDepth 100000

theorem pieces_at {s : ByteArray} {k : Nat} (hk : k < (pieces s).length) : (splitNL s.data.toList).drop k = (pieces s)[k].data.toList :: (splitNL s.data.toList).drop (k + 1) ∧ (pieces s)[k].size ≤ s.size := by
  have e := pieces_data s
  have hk2 : k < (splitNL s.data.toList).length := by rw [← e, List.length_map]; exact hk
  have e2 : (splitNL s.data.toList)[k] = (pieces s)[k].data.toList := by
    have : ((pieces s).map (·.data.toList))[k]'(by rw [List.length_map]; exact hk) = (pieces s)[k].data.toList := by rw [List.getElem_map]
    rw [← this]
    congr 1
    exact e.symm
  refine ⟨by rw [List.drop_eq_getElem_cons hk2, e2], ?_⟩
  have := (splitNL_short s.data.toList).2 _ (List.getElem_mem hk2)
  rw [e2, len_data, len_data] at this
  exact this
theorem OwnT.base {T size : Nat} {w : World} {base base' : Nat} {v : Value} {n : Nat} {xs : List Value} (h : OwnT T size w base v n xs) (hb : base' ≤ base) : OwnT T size w base' v n xs := by
  obtain ⟨h1, h2⟩ := h
  refine ⟨h1, ?_⟩
  rcases h2 with h2 | ⟨g, cap, cur, rfl, b, c, d⟩
  · exact .inl h2
  · exact .inr ⟨g, cap, cur, rfl, Nat.le_trans hb b, c, d⟩
theorem goodL_len : ∀ (l : List (List UInt8)) (no : Nat), (goodL no l).length ≤ l.length
  | [], _ => by simp [goodL]
  | a :: r, no => by
    have := goodL_len r (no + 1)
    unfold goodL
    split <;> simp <;> omega
theorem strs_cell {ss : List ByteArray} {w : World} {g : Nat} (h : w.heap[g]? = some (.cells (ss.map Value.string).toArray 9 (0, 0))) {k : Nat} (hk : k < ss.length) : w.cell? ⟨g, k, none⟩ = some (.string ss[k]) := by
  rw [Lib.cell_of_heap h]
  simp [hk]

set_option maxHeartbeats 4000000 in
theorem lines_any (s : ByteArray) (w : World) (hs : s.size ≤ 1000000) (hsh : LibOk w) :
    Calls Tryd.prog 8 #[.string s] w (LinesRes 32 52 1 boxRow s.data.toList w) := by
  by_cases hl : 20000 < s.size
  · have hl' : (20000 : Int) < (s.size : Int) := by omega
    go_enter Tryd.func8, Tryd.ntmps8
    go_wp2
    exact bodyPost_ret (v := .tuple #[.slice none 0 0, .int .i64 0, .int .i64 1]) (by simp [results, Tryd.results8, go_sem]) rfl ⟨Below.refl _ _, .inl ⟨by rw [len_data]; exact hl, rfl⟩⟩
  · have hl' : (s.size : Int) ≤ 20000 := by omega
    have hsp := fun W => split_any s W hs
    have hn := splitNL_short s.data.toList
    have hpl : (pieces s).length ≤ s.size + 1 := by
      have e := congrArg List.length (pieces_data s)
      rw [List.length_map] at e
      rw [e, ← len_data]
      exact hn.1
    obtain ⟨n, hnn⟩ : ∃ n, n = (pieces s).length := ⟨_, rfl⟩
    have hS : Calls Tryd.prog 21 #[.string s, .string ⟨#[10]⟩] w fun e w' => e = .returned (.slice (some ⟨w.heap.size, 0, none⟩) n n) ∧ w.heap.size < w'.heap.size ∧ w'.heap[w.heap.size]? = some (.cells ((pieces s).map Value.string).toArray 9 (0, 0)) ∧ Below w.heap.size w w' := by
      rw [hnn]
      refine (split_any s w hs hsh).mono ?_
      rintro e w' ⟨rfl, rfl⟩
      exact ⟨rfl, by simp, alloc_new w _, (Below.refl _ _).alloc (Nat.le_refl _) _⟩
    have HNN := Lib.hid hnn
    have hnb : n ≤ 20001 := by omega
    have HP : Hid (∀ k (hk : k < (pieces s).length), (splitNL s.data.toList).drop k = (pieces s)[k].data.toList :: (splitNL s.data.toList).drop (k + 1) ∧ (pieces s)[k].size ≤ s.size) := Lib.hid fun k hk => pieces_at hk
    have HLE : Hid ((splitNL s.data.toList).drop n = []) := Lib.hid (List.drop_eq_nil_of_le (by
      have e := congrArg List.length (pieces_data s)
      rw [List.length_map] at e
      omega))
    have HSL : s.data.toList.length ≤ 20000 := by rw [len_data]; omega
    obtain ⟨X, hX⟩ : ∃ X, X = splitNL s.data.toList := ⟨_, rfl⟩
    have HX := Lib.hid hX
    rw [← hX] at HLE HP
    clear hnn hn hsp hX hpl
    go_enter Tryd.func8, Tryd.ntmps8
    go_wp2_with (go_at_call 21; refine hS.mono ?_)
    rintro e w0 ⟨rfl, s0, hst, hb0⟩
    clear hS
    go_wp2
    go_loopw [5, 16] (fun v iv wr => ∃ (k : Nat) (ps : List (Nat × Value)) (ls : List (Nat × List Bx)), iv = .int .i64 k ∧ k ≤ n ∧ OwnT 32 2 wr w.heap.size v ps.length (lineRow ps) ∧ PairsI 52 1 boxRow wr w.heap.size ps ls ∧ wr.heap[w.heap.size]? = some (.cells ((pieces s).map Value.string).toArray 9 (0, 0)) ∧ Below w.heap.size w wr ∧ Hid (ls ++ goodL (k + 1) (X.drop k) = goodL 1 X) ∧ Hid (badAt (k + 1) (X.drop k) = badAt 1 X) ∧ ps.length ≤ k) (fun _ iv _ => n - (intOf iv).toNat)
    case atStart => exact ⟨0, [], [], rfl, by omega, OwnT.nil _ _ _ _, ⟨rfl, fun i p q hp _ => by simp at hp⟩, hst, hb0, rfl, rfl, by simp⟩
    case round =>
      obtain ⟨k, ps, ls, rfl, hk, hown, hpa, hstr, hbw, HG, HB, hpk⟩ := hrel
      have hsz := hbw.size
      by_cases hp : k < n
      · have hi : (k : Int) < (n : Int) := by omega
        have hkp : k < (pieces s).length := by rw [← HNN.out]; exact hp
        obtain ⟨L, hL⟩ : ∃ L, L = (pieces s)[k] := ⟨_, rfl⟩
        have hc := strs_cell hstr hkp
        rw [← hL] at hc
        obtain ⟨hd, hls⟩ := HP.out k hkp
        rw [← hL] at hd hls
        have HD := Lib.hid hd
        clear hL hd hst hb0
        cases hw : wordsL L.data.toList with
        | none =>
          have HE : Hid (badAt 1 X = k + 1) := Lib.hid (by rw [← HB.out, HD.out, badAt_none hw])
          have HW := Lib.hid hw
          clear hw
          go_wp2_with (go_at_call 22; refine (wordsOf_bad L _ (by omega) HW.out).mono ?_)
          rintro e w1 ⟨rfl, b1⟩
          go_wp2
          refine bodyPost_ret (v := .tuple #[.slice none 0 0, .int .i64 (badAt 1 X), .int .i64 7]) (by simp [results, Tryd.results8, go_sem, HE.out]) rfl ⟨hbw.trans (b1.mono hsz), .inr (.inl ⟨HSL, ?_, ?_⟩)⟩
          · rw [← HX.out, HE.out]; omega
          · rw [← HX.out]
        | some u =>
          have HW := Lib.hid hw
          have HB2 : Hid (badAt (k + 1 + 1) (X.drop (k + 1)) = badAt 1 X) := Lib.hid (by rw [← HB.out, HD.out, badAt_some hw])
          by_cases hu : u = []
          · subst hu
            have HG2 : Hid (ls ++ goodL (k + 1 + 1) (X.drop (k + 1)) = goodL 1 X) := Lib.hid (by rw [← HG.out, HD.out, goodL_none hw])
            clear hw
            go_wp2_with (go_at_call 22; refine (wordsOf_some L _ (by omega) [] HW.out).mono ?_)
            rintro e w1 ⟨a, c, rfl, ho, b1, _⟩
            have hown1 := hown.below b1
            have hpa1 := hpa.keep fun _ _ _ h => h.below b1
            have hstr1 : w1.heap[w.heap.size]? = some (.cells ((pieces s).map Value.string).toArray 9 (0, 0)) := (b1.block _ (block_lt hstr)).trans hstr
            clear ho
            go_wp2
            go_roundw
            case rel => exact ⟨k + 1, ps, ls, by go_num, by omega, hown1, hpa1, hstr1, hbw.trans (b1.mono hsz), HG2, HB2, by omega⟩
            case measure => simp [intOf]; omega
          · have HG2 : Hid ((ls ++ [(k + 1, u)]) ++ goodL (k + 1 + 1) (X.drop (k + 1)) = goodL 1 X) := Lib.hid (by rw [← HG.out, HD.out, goodL_some hw hu]; simp)
            have hul : 0 < u.length := List.length_pos_iff.2 hu
            clear hw hu
            go_wp2_with (go_at_call 22; refine (wordsOf_some L _ (by omega) u HW.out).mono ?_)
            rintro e w1 ⟨a, c, rfl, ho, b1, hus⟩
            have s1 := b1.size
            have hown1 := hown.below b1
            have hpa1 := hpa.keep fun _ _ _ h => h.below b1
            have hstr1 : w1.heap[w.heap.size]? = some (.cells ((pieces s).map Value.string).toArray 9 (0, 0)) := (b1.block _ (block_lt hstr)).trans hstr
            have hul' : (0 : Int) < (u.length : Int) := by omega
            go_wp2_with (at_builtin; refine wpList_append_line 23 32 (.inl ⟨rfl, rfl⟩) rfl (.tmp 33) (.tmp 38) rfl w.heap.size _ ps rfl (hown1.alloc _) ⟨w1.heap.size, 0, none⟩ 1 (k + 1, .slice a u.length c) ⟨_, _, _, rfl⟩ rfl (cells_two w1 _ _ _) (by omega) (by simp; omega) ?_)
            intro v' w4 hown4 hgrow
            go_wp2
            go_roundw
            case rel =>
              have ho4 := ((ho.base hsz).alloc (.cells #[.int .i64 (k + 1 : Nat), .slice a u.length c] 32)).other (hown1.alloc _) (by decide) hgrow
              have hp4 := (hpa1.keep fun _ _ _ h => (h.alloc _).other (hown1.alloc _) (by decide) hgrow).snoc (n := k + 1) ho4
              have hs4 := block_other (hown1.alloc _) ((Lib.alloc_old w1 _ _ (block_lt hstr1)).trans hstr1) (by decide) hgrow
              exact ⟨k + 1, ps ++ [(k + 1, .slice a u.length c)], ls ++ [(k + 1, u)], by go_num, by omega, by rw [List.length_append]; exact hown4, hp4, hs4, below_own (hbw.trans (b1.mono hsz)) hown1 hgrow, HG2, HB2, by simp; omega⟩
            case measure => simp [intOf]; omega
      · have hi : ¬ (k : Int) < (n : Int) := by omega
        have hkn : k = n := by omega
        have HE : Hid (goodL 1 X = ls) := Lib.hid (by rw [← HG.out, hkn, HLE.out]; simp [goodL])
        have HE2 : Hid (badAt 1 X = 0) := Lib.hid (by rw [← HB.out, hkn, HLE.out]; simp [badAt])
        clear hkn
        obtain ⟨a, c, rfl⟩ := hown.isSlice
        go_wp2
        refine bodyPost_ret (v := .tuple #[.slice a ps.length c, .int .i64 0, .int .i64 0]) (by simp [results, Tryd.results8, go_sem]) rfl ⟨hbw, .inr (.inr ⟨HSL, ?_, _, rfl, ?_⟩)⟩
        · rw [← HX.out]; exact HE2.out
        · rw [← HX.out, HE.out]
          exact ⟨ps, hown, hpa⟩
end Go.Proofs.YtponiboiijgllaaDoor
