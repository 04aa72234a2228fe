/- What lex.wordsOf answers of any line. Condition: the line has at most 1000000 bytes. -/
import Derived.Test.YtponiboiijgllaaDoorLWalkI
namespace Go.Proofs.YtponiboiijgllaaDoor
open Go.RowKit
set_option maxRecDepth 100000

theorem wlen_pos {c : UInt8} {t : List UInt8} (h : isBl c = false) : 1 ≤ wlen (c :: t) := by
  unfold wlen
  by_cases hc : c.toNat = 34
  · have : 1 ≤ tlen (c :: t) := by
      simp only [tlen, if_pos hc]
      cases qlen false t <;> simp
    omega
  · have : tlen (c :: t) = 0 := by simp only [tlen, if_neg hc]
    rw [this, List.drop_zero, nb_cons, h]
    simp
/-- Behind a word. -/
theorem words_go {acc : List Bx} {all : Option (List Bx)} {c : UInt8} {t : List UInt8} {b : Bx} (hc : isBl c = false) (h35 : c.toNat ≠ 35) (hb : wordL ((c :: t).take (wlen (c :: t))) = some b) (H : (wordsL (c :: t)).map (acc ++ ·) = all) :
    (wordsL ((c :: t).drop (wlen (c :: t)))).map ((acc ++ [b]) ++ ·) = all := by
  have hp := wlen_pos (t := t) hc
  have e : (c :: t).drop (wlen (c :: t)) = t.drop (wlen (c :: t) - 1) := by
    obtain ⟨k, hk⟩ : ∃ k, wlen (c :: t) = k + 1 := ⟨wlen (c :: t) - 1, by omega⟩
    rw [hk]
    rfl
  rw [wordsL_cons hc, if_neg h35, hb] at H
  simp only at H
  rw [e, ← H, Option.map_map]
  congr 1
  funext x
  simp
theorem words_bad {acc : List Bx} {all : Option (List Bx)} {c : UInt8} {t : List UInt8} (hc : isBl c = false) (h35 : c.toNat ≠ 35) (hb : wordL ((c :: t).take (wlen (c :: t))) = none) (H : (wordsL (c :: t)).map (acc ++ ·) = all) : all = none := by
  rw [wordsL_cons hc, if_neg h35, hb] at H
  exact H.symm
theorem words_end {acc : List Bx} {all : Option (List Bx)} (H : (wordsL []).map (acc ++ ·) = all) : all = some acc := by
  rw [wordsL_nil] at H
  simpa using H.symm
theorem words_rem {acc : List Bx} {all : Option (List Bx)} {c : UInt8} {t : List UInt8} (h35 : c.toNat = 35) (H : (wordsL (c :: t)).map (acc ++ ·) = all) : all = some acc := by
  have hc : isBl c = false := by
    rw [Bool.eq_false_iff]
    intro k
    rw [isBl_iff] at k
    omega
  rw [wordsL_cons hc, if_pos h35] at H
  simpa using H.symm

/-- What lex.wordsOf leaves. -/
def WordsRes (l : List UInt8) (w : World) (e : Ending) (w' : World) : Prop :=
  Below w.heap.size w w' ∧ ((∃ v u, wordsL l = some u ∧ e = .returned (.tuple #[v, .bool true]) ∧ OwnT 52 1 w' w.heap.size v u.length (boxRow u) ∧ u.length ≤ l.length) ∨ (wordsL l = none ∧ e = .returned (.tuple #[.slice none 0 0, .bool false])))

theorem sk_head {s r : ByteArray} (h : r.data.toList = s.data.toList.drop (sk s.data.toList)) (h0 : 0 < r.size) : isBl (r[0]'h0) = false := by
  have e := drop_at h0
  rw [List.drop_zero, h] at e
  rcases sk_drop s.data.toList with k | ⟨c, t, k, hb⟩
  · rw [k] at e; cases e
  · rw [k] at e
    simp only [List.cons.injEq] at e
    rw [← e.1]
    exact hb

set_option maxHeartbeats 4000000 in
theorem wordsOf_any (s : ByteArray) (w : World) (hs : s.size ≤ 1000000) :
    Calls Tryd.prog 22 #[.string s] w (WordsRes s.data.toList w) := by
  have st := st_v
  go_enter Tryd.func22, Tryd.ntmps22
  go_wp2
  go_loopw [0, 4] (fun lv v wr => ∃ (r : ByteArray) (acc : List Bx), lv = .string r ∧ r.size ≤ s.size ∧ OwnT 52 1 wr w.heap.size v acc.length (boxRow acc) ∧ Below w.heap.size w wr ∧ Hid ((wordsL r.data.toList).map (acc ++ ·) = wordsL s.data.toList) ∧ acc.length + r.size ≤ s.size) (fun lv _ _ => (match lv with | .string r => r.size | _ => 0))
  case atStart => exact ⟨s, [], rfl, Nat.le_refl _, OwnT.nil _ _ _ _, Below.refl _ _, Lib.hid (by simp), by simp⟩
  case round =>
    obtain ⟨r, acc, rfl, hr, hown, hbw, H, hal⟩ := hrel
    have hsz := hbw.size
    obtain ⟨r', hr'⟩ : ∃ r' : ByteArray, r' = ⟨(r.data.toList.drop (sk r.data.toList)).toArray⟩ := ⟨_, rfl⟩
    have hT : ∀ W, Calls Tryd.prog 40 #[.string r, .func (.func 41) #[] #[]] W fun e w' => e = .returned (.string r') ∧ Below W.heap.size W w' := fun W => by rw [hr']; exact trim_any r W
    have hrd : r'.data.toList = r.data.toList.drop (sk r.data.toList) := by rw [hr']
    have hrs : r'.size ≤ r.size := by rw [← len_data, hrd, List.length_drop, len_data]; omega
    have H2 : Hid ((wordsL r'.data.toList).map (acc ++ ·) = wordsL s.data.toList) := Lib.hid (by rw [hrd, wordsL_skip]; exact H.out)
    clear hr'
    by_cases h0 : 0 < r'.size
    · have t2 := not_empty h0
      have HB := Lib.hid (sk_head hrd h0)
      have HD : Hid (r'.data.toList = (r'[0]'h0) :: r'.data.toList.drop 1) := Lib.hid (by
        have e := drop_at h0
        rw [List.drop_zero] at e
        exact e)
      clear hrd
      by_cases h35 : (r'[0]'h0).toNat = 35
      · have t35 : (((r'[0]'h0).toNat : Int) == 35) = true := by simp; omega
        have HE : Hid (wordsL s.data.toList = some acc) := Lib.hid (by
          have := H2.out
          rw [HD.out] at this
          exact words_rem h35 this)
        clear h35
        go_wp2_with (go_at_call 40; refine (hT _).mono ?_)
        rintro e w1 ⟨rfl, b1⟩
        have hown1 := hown.below b1
        go_wp2
        go_ret2
        exact ⟨hbw.trans (b1.mono hsz), .inl ⟨_, acc, HE.out, rfl, hown1, by rw [len_data]; omega⟩⟩
      · have t35 : (((r'[0]'h0).toNat : Int) == 35) = false := by simp; omega
        have hwl := wlen_le r'.data.toList
        rw [len_data] at hwl
        have hwp : 1 ≤ wlen r'.data.toList := by rw [HD.out]; exact wlen_pos HB.out
        cases hwd : wordL (r'.data.toList.take (wlen r'.data.toList)) with
        | none =>
          have HW : Hid (wordL (r'.extract 0 (wlen r'.data.toList)).data.toList = none) := Lib.hid (by rw [prefix_bytes]; exact hwd)
          have HE : Hid (wordsL s.data.toList = none) := Lib.hid (by
            have := H2.out
            rw [HD.out] at this hwd
            exact words_bad HB.out h35 hwd this)
          clear h35 hwd
          go_wp2_with (go_at_call 40; refine (hT _).mono ?_)
          rintro e w1 ⟨rfl, b1⟩
          have s1 := b1.size
          go_wp2_with (go_at_call 42; refine (length_any r' _ (by omega)).mono ?_)
          rintro e w2 ⟨rfl, b2⟩
          have s2 := b2.size
          go_wp2_with (go_at_call 43; refine (wordOf_any _ _ (by simp; omega)).mono ?_)
          rintro e w3 ⟨rfl, b3⟩
          have s3 := b3.size
          rw [HW.out]
          simp only [wordV]
          go_wp2
          go_ret2
          exact ⟨(((hbw.trans (b1.mono hsz)).trans (b2.mono (by omega))).trans (b3.mono (by omega))).alloc (by omega) _, .inr ⟨HE.out, rfl⟩⟩
        | some b =>
          have HW : Hid (wordL (r'.extract 0 (wlen r'.data.toList)).data.toList = some b) := Lib.hid (by rw [prefix_bytes]; exact hwd)
          obtain ⟨r2, hr2⟩ : ∃ r2 : ByteArray, r2 = r'.extract (wlen r'.data.toList) r'.size := ⟨_, rfl⟩
          have HE : Hid ((wordsL r2.data.toList).map ((acc ++ [b]) ++ ·) = wordsL s.data.toList) := Lib.hid (by
            have := H2.out
            rw [hr2, suffix_bytes]
            rw [HD.out] at this hwd ⊢
            exact words_go HB.out h35 hwd this)
          have hr2s : r2.size + wlen r'.data.toList = r'.size := by rw [hr2]; simp; omega
          have HR2 := Lib.hid hr2
          clear h35 hwd hr2
          go_wp2_with (go_at_call 40; refine (hT _).mono ?_)
          rintro e w1 ⟨rfl, b1⟩
          have s1 := b1.size
          go_wp2_with (go_at_call 42; refine (length_any r' _ (by omega)).mono ?_)
          rintro e w2 ⟨rfl, b2⟩
          have s2 := b2.size
          go_wp2_with (go_at_call 43; refine (wordOf_any _ _ (by simp; omega)).mono ?_)
          rintro e w3 ⟨rfl, b3⟩
          have s3 := b3.size
          have hown3 := ((hown.below b1).below b2).below b3
          have hb3 := ((hbw.trans (b1.mono hsz)).trans (b2.mono (by omega))).trans (b3.mono (by omega))
          rw [HW.out]
          simp only [wordV]
          go_wp2_with (at_builtin; refine wpList_append_box rfl (.tmp 29) (.tmp 31) rfl w.heap.size _ acc rfl ((hown3.alloc _).alloc _) ⟨w3.heap.size + 1, 0, none⟩ 1 b rfl (by simpa using news_one (w3.alloc (.cells #[b.v] 52)) 52 b.v) (by omega) (by simp; omega) ?_)
          intro v' w4 hown4 hgrow
          go_wp2
          go_roundw
          case rel => exact ⟨r2, acc ++ [b], by rw [HR2.out], by omega, by rw [List.length_append]; exact hown4, below_own (hb3.alloc (by omega) _) (hown3.alloc _) hgrow, HE, by simp; omega⟩
          case measure =>
            have e : (r'.extract (wlen r'.data.toList) r'.size).size = r2.size := by rw [HR2.out]
            simp at e
            simp
            omega
    · have hl : r'.data.toList = [] := List.eq_nil_of_length_eq_zero (by rw [len_data]; omega)
      have t1 : r'.toList = [] := by rw [Lib.toList_data, hl]
      have t2 : r'.toList.isEmpty = true := by rw [t1]; rfl
      have HE : Hid (wordsL s.data.toList = some acc) := Lib.hid (by
        have := H2.out
        rw [hl] at this
        exact words_end this)
      clear hl hrd
      go_wp2_with (go_at_call 40; refine (hT _).mono ?_)
      rintro e w1 ⟨rfl, b1⟩
      have hown1 := hown.below b1
      go_wp2
      go_ret2
      exact ⟨hbw.trans (b1.mono hsz), .inl ⟨_, acc, HE.out, rfl, hown1, by rw [len_data]; omega⟩⟩
end Go.Proofs.YtponiboiijgllaaDoor
