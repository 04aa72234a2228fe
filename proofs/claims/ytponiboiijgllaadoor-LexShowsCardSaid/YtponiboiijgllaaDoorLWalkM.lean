/- What the reference's words answers of any line. Condition: the line has at most 1000000 bytes. -/
import Derived.Test.YtponiboiijgllaaDoorLWalkL
namespace Go.Proofs.YtponiboiijgllaaDoor
open Go.RowKit
set_option maxRecDepth 100000

theorem rend_le (m : List UInt8) : rend m ≤ m.length := by
  rcases m with _ | ⟨c, t⟩
  · simp [rend]
  · simp only [rend]
    split
    · cases h : qlen false t with
      | none => simp
      | some n =>
        have := qlen_le false t n h
        simp
        omega
    · exact nb_le _
theorem mid_bytes (s : ByteArray) (k n : Nat) : (s.extract k (k + n)).data.toList = (s.data.toList.drop k).take n := by
  simp only [ByteArray.data_extract, Array.toList_extract, List.extract_eq_take_drop]
  rw [show k + n - k = n by omega]
/-- What the reference's words leaves. -/
def RefRes (l : List UInt8) (w : World) (e : Ending) (w' : World) : Prop :=
  Below w.heap.size w w' ∧ ((∃ v u, wordsL l = some u ∧ e = .returned (.tuple #[v, .bool true]) ∧ OwnT 43 3 w' w.heap.size v u.length (refRow u) ∧ u.length ≤ l.length) ∨ (wordsL l = none ∧ e = .returned (.tuple #[.slice none 0 0, .bool false])))
theorem refWord_none {m : List UInt8} (h : wordL (m.take (rend m)) = none) : refWord m = none := by unfold refWord; rw [h]
theorem refWord_stop {m : List UInt8} {b : Bx} (h : wordL (m.take (rend m)) = some b) (hs : stops (m.drop (rend m)) = true) : refWord m = some b := by unfold refWord; rw [h, hs]; rfl
theorem refWord_on {m : List UInt8} {b : Bx} (h : wordL (m.take (rend m)) = some b) (hs : stops (m.drop (rend m)) = false) : refWord m = none := by unfold refWord; rw [h, hs]; rfl
theorem stops_at {s : ByteArray} {J : Nat} (hJ : J < s.size) : stops (s.data.toList.drop J) = isBl (s[J]'hJ) := by rw [drop_at hJ]; rfl
theorem stops_end {s : ByteArray} {J : Nat} (hJ : ¬ J < s.size) : stops (s.data.toList.drop J) = true := by rw [List.drop_eq_nil_of_le (by rw [len_data]; omega)]; rfl

set_option maxHeartbeats 4000000 in
theorem refwords_any (s : ByteArray) (w : World) (hs : s.size ≤ 1000000) :
    Calls Tryd.prog 23 #[.string s] w (RefRes s.data.toList w) := by
  go_enter Tryd.func23, Tryd.ntmps23
  go_wp2
  go_loopw [4, 5] (fun v iv wr => ∃ (k : Nat) (acc : List Bx), iv = .int .i64 k ∧ k ≤ s.size ∧ OwnT 43 3 wr w.heap.size v acc.length (refRow acc) ∧ Below w.heap.size w wr ∧ Hid ((wordsL (s.data.toList.drop k)).map (acc ++ ·) = wordsL s.data.toList) ∧ acc.length ≤ k) (fun _ iv _ => s.size - (intOf iv).toNat)
  case atStart => exact ⟨0, [], rfl, by omega, OwnT.nil _ _ _ _, Below.refl _ _, Lib.hid (by simp), by simp⟩
  case round =>
    obtain ⟨k, acc, rfl, hk, hown, hbw, H, hal⟩ := hrel
    have hsz := hbw.size
    by_cases hp : k < s.size
    · have hi : (k : Int) < (s.size : Int) := by omega
      have HD := Lib.hid (drop_at hp)
      by_cases hb : isBl (s[k]'hp) = true
      · have HE : Hid ((wordsL (s.data.toList.drop (k + 1))).map (acc ++ ·) = wordsL s.data.toList) := Lib.hid (by
          rw [← H.out, HD.out, wordsL_blank hb])
        go_wp2_with (go_at_call 44; refine (refblank_any _ _).mono ?_; rintro e w' ⟨rfl, rfl⟩)
        go_roundw
        case rel => exact ⟨k + 1, acc, by go_num, by omega, hown, hbw, HE, by omega⟩
        case measure => simp [intOf]; omega
      · have hb : isBl (s[k]'hp) = false := by simpa using hb
        by_cases h35 : (s[k]'hp).toNat = 35
        · have t35 : (((s[k]'hp).toNat : Int) == 35) = true := by simp; omega
          have HE : Hid (wordsL s.data.toList = some acc) := Lib.hid (by
            have := H.out
            rw [HD.out] at this
            exact words_rem h35 this)
          clear h35
          go_wp2_with (go_at_call 44; refine (refblank_any _ _).mono ?_; rintro e w' ⟨rfl, rfl⟩)
          go_ret2
          exact ⟨hbw, .inl ⟨_, acc, HE.out, rfl, hown, by rw [len_data]; omega⟩⟩
        · have t35 : (((s[k]'hp).toNat : Int) == 35) = false := by simp; omega
          obtain ⟨J, hJ⟩ : ∃ J, J = k + rend (s.data.toList.drop k) := ⟨_, rfl⟩
          have hE : ∀ W, Calls Tryd.prog 45 #[.string s, .int .i64 k] W fun e w' => e = .returned (.int .i64 J) ∧ W = w' := fun W => by rw [hJ]; exact refend_any s k W hs hp
          have hle := rend_le (s.data.toList.drop k)
          rw [List.length_drop, len_data] at hle
          have hJs : J ≤ s.size := by omega
          have hkJ : k ≤ J := by omega
          have hmid : (s.extract k J).data.toList = (s.data.toList.drop k).take (rend (s.data.toList.drop k)) := by rw [hJ]; exact mid_bytes s k _
          have hdrop : (s.data.toList.drop k).drop (rend (s.data.toList.drop k)) = s.data.toList.drop J := by rw [List.drop_drop, hJ]
          have hag := word_agree (s.data.toList.drop k)
          have HB := Lib.hid hb
          have HJ := Lib.hid hJ
          have hi1 : (k : Int) ≤ (J : Int) := by omega
          have hi2 : (J : Int) ≤ (s.size : Int) := by omega
          clear hJ hle
          cases hw : wordL ((s.data.toList.drop k).take (rend (s.data.toList.drop k))) with
          | none =>
            have HE : Hid (wordsL s.data.toList = none) := Lib.hid (by
              have h1 := refWord_none hw
              rw [hag.1] at h1
              have := H.out
              rw [HD.out] at this h1
              exact words_bad hb h35 h1 this)
            have HM : Hid (wordL (s.extract k J).data.toList = none) := Lib.hid (by rw [hmid]; exact hw)
            clear hag hw h35 hmid hdrop
            go_wp2_with (first | (go_at_call 44; refine (refblank_any _ _).mono ?_; rintro e w' ⟨rfl, rfl⟩) | (go_at_call 45; refine (hE _).mono ?_; rintro e w' ⟨rfl, rfl⟩) | (go_at_call 46; refine (refword_any _ _ (by simp; omega)).mono ?_))
            rintro e w1 ⟨kk, nn, x, ok, rfl, hR, b1⟩
            rcases hR with ⟨rfl, b, hb', _⟩ | ⟨rfl, _⟩
            · rw [HM.out] at hb'; cases hb'
            · simp only [refBox]
              go_wp2
              go_ret2
              exact ⟨(hbw.trans (b1.mono hsz)).alloc (Nat.le_trans hsz b1.size) _, .inr ⟨HE.out, rfl⟩⟩
          | some b =>
            have HM : Hid (wordL (s.extract k J).data.toList = some b) := Lib.hid (by rw [hmid]; exact hw)
            have hword : ∀ W, Calls Tryd.prog 46 #[.string (s.extract k J)] W fun e w' => e = .returned (.tuple #[refBox b.kd b.int b.str, .bool true]) ∧ Below W.heap.size W w' := by
              intro W
              refine (refword_any _ W (by simp; omega)).mono ?_
              rintro e w1 ⟨kk, nn, x, ok, rfl, hR, b1⟩
              rcases hR with ⟨rfl, b', hb', rfl, rfl, rfl⟩ | ⟨rfl, hn⟩
              · rw [HM.out] at hb'
                cases hb'
                exact ⟨rfl, b1⟩
              · rw [HM.out] at hn; cases hn
            by_cases hst : stops (s.data.toList.drop J) = true
            · have HE : Hid ((wordsL (s.data.toList.drop J)).map ((acc ++ [b]) ++ ·) = wordsL s.data.toList ∧ k < J) := Lib.hid (by
                have h1 := refWord_stop hw (by rw [hdrop]; exact hst)
                have h2 := hag.2 b h1
                rw [hag.1] at h1
                have := H.out
                rw [← hdrop, h2]
                have hp1 : 1 ≤ wlen (s.data.toList.drop k) := by rw [HD.out]; exact wlen_pos hb
                refine ⟨?_, by have := HJ.out; omega⟩
                rw [HD.out] at this h1 ⊢
                exact words_go hb h35 h1 this)
              have hkJ2 := HE.out.2
              have hway : ¬ J < s.size ∨ ∃ h : J < s.size, isBl (s[J]'h) = true := by
                by_cases h : J < s.size
                · rw [stops_at h] at hst; exact .inr ⟨h, hst⟩
                · exact .inl h
              clear hag hw h35 hmid hdrop hst hkJ
              rcases hway with hq | ⟨hq, hbl⟩
              · have hq' : ¬ (J : Int) < (s.size : Int) := by omega
                go_wp2_with (first | (go_at_call 44; refine (refblank_any _ _).mono ?_; rintro e w' ⟨rfl, rfl⟩) | (go_at_call 45; refine (hE _).mono ?_; rintro e w' ⟨rfl, rfl⟩) | (go_at_call 46; refine (hword _).mono ?_))
                rintro e w1 ⟨rfl, b1⟩
                have s1 := b1.size
                have hown1 := hown.below b1
                simp only [refBox]
                go_wp2_with (at_builtin; refine wpList_append_ref rfl (.tmp 50) (.tmp 52) rfl w.heap.size _ acc rfl ((hown1.alloc _).alloc _) ⟨w1.heap.size + 1, 0, none⟩ 1 b rfl (by simpa using cells_three (w1.alloc (.cells #[.int .i64 b.kd, .int .i64 b.int, .string b.str] 43)) (.int .i64 b.kd) (.int .i64 b.int) (.string b.str) 43) (by omega) (by simp; omega) ?_)
                intro v' w4 hown4 hgrow
                go_wp2
                go_roundw
                case rel => exact ⟨J, acc ++ [b], rfl, by omega, by rw [List.length_append]; exact hown4, below_own ((hbw.trans (b1.mono hsz)).alloc (by omega) _) (hown1.alloc _) hgrow, Lib.hid HE.out.1, by simp; omega⟩
                case measure => simp [intOf]; omega
              · have hq' : (J : Int) < (s.size : Int) := by omega
                go_wp2_with (first | (go_at_call 44; refine (refblank_any _ _).mono ?_; rintro e w' ⟨rfl, rfl⟩) | (go_at_call 45; refine (hE _).mono ?_; rintro e w' ⟨rfl, rfl⟩) | (go_at_call 46; refine (hword _).mono ?_))
                rintro e w1 ⟨rfl, b1⟩
                have s1 := b1.size
                have hown1 := hown.below b1
                simp only [refBox]
                go_wp2_with (first | (go_at_call 44; refine (refblank_any _ _).mono ?_; rintro e w' ⟨rfl, rfl⟩) | (at_builtin; refine wpList_append_ref rfl (.tmp 50) (.tmp 52) rfl w.heap.size _ acc rfl ((hown1.alloc _).alloc _) ⟨w1.heap.size + 1, 0, none⟩ 1 b rfl (by simpa using cells_three (w1.alloc (.cells #[.int .i64 b.kd, .int .i64 b.int, .string b.str] 43)) (.int .i64 b.kd) (.int .i64 b.int) (.string b.str) 43) (by omega) (by simp; omega) ?_))
                intro v' w4 hown4 hgrow
                go_wp2
                go_roundw
                case rel => exact ⟨J, acc ++ [b], rfl, by omega, by rw [List.length_append]; exact hown4, below_own ((hbw.trans (b1.mono hsz)).alloc (by omega) _) (hown1.alloc _) hgrow, Lib.hid HE.out.1, by simp; omega⟩
                case measure => simp [intOf]; omega
            · have hst : stops (s.data.toList.drop J) = false := by simpa using hst
              have HE : Hid (wordsL s.data.toList = none) := Lib.hid (by
                have h1 := refWord_on hw (by rw [hdrop]; exact hst)
                rw [hag.1] at h1
                have := H.out
                rw [HD.out] at this h1
                exact words_bad hb h35 h1 this)
              have hq : J < s.size := by
                rcases Nat.lt_or_ge J s.size with h | h
                · exact h
                · rw [stops_end (by omega)] at hst; cases hst
              have hbl : isBl (s[J]'hq) = false := by rw [stops_at hq] at hst; exact hst
              have hq' : (J : Int) < (s.size : Int) := by omega
              clear hag hw h35 hmid hdrop hst hkJ
              go_wp2_with (first | (go_at_call 44; refine (refblank_any _ _).mono ?_; rintro e w' ⟨rfl, rfl⟩) | (go_at_call 45; refine (hE _).mono ?_; rintro e w' ⟨rfl, rfl⟩) | (go_at_call 46; refine (hword _).mono ?_))
              rintro e w1 ⟨rfl, b1⟩
              simp only [refBox]
              go_wp2_with (go_at_call 44; refine (refblank_any _ _).mono ?_; rintro e w' ⟨rfl, rfl⟩)
              go_ret2
              exact ⟨(hbw.trans (b1.mono hsz)).alloc (Nat.le_trans hsz b1.size) _, .inr ⟨HE.out, rfl⟩⟩
    · have hi : ¬ (k : Int) < (s.size : Int) := by omega
      have HE : Hid (wordsL s.data.toList = some acc) := Lib.hid (by
        have := H.out
        rw [List.drop_eq_nil_of_le (by rw [len_data]; omega)] at this
        exact words_end this)
      go_wp2
      go_ret2
      exact ⟨hbw, .inl ⟨_, acc, HE.out, rfl, hown, by rw [len_data]; omega⟩⟩
end Go.Proofs.YtponiboiijgllaaDoor
