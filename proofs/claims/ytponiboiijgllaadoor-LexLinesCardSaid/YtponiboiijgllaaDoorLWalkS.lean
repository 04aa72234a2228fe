/- LexLines answers true at every text. Conditions: the library's own variable is as a start leaves it. -/
import Derived.Test.YtponiboiijgllaaDoorLWalkR
namespace Go.Proofs.YtponiboiijgllaaDoor
open Go.RowKit
set_option maxRecDepth 100000

theorem reflines_good (s : ByteArray) (w : World) (hs : s.size ≤ 20000) (hb : badAt 1 (splitNL s.data.toList) = 0) :
    Calls Tryd.prog 9 #[.string s] w fun e w' => ∃ v, e = .returned (.tuple #[v, .int .i64 0, .int .i64 0]) ∧ SeesL SeesR w' v (goodL 1 (splitNL s.data.toList)) ∧ Below w.heap.size w w' := by
  refine (reflines_any s w (by omega)).mono ?_
  rintro e w' ⟨hbw, ⟨h, _⟩ | ⟨_, h, _⟩ | ⟨_, _, v, rfl, hL⟩⟩
  · rw [len_data] at h; omega
  · exact absurd hb h
  · exact ⟨v, rfl, hL.sees fun _ _ h => h.seesR, hbw⟩
theorem reflines_bad (s : ByteArray) (w : World) (hs : s.size ≤ 20000) (n : Nat) (hn : n ≠ 0) (hb : badAt 1 (splitNL s.data.toList) = n) :
    Calls Tryd.prog 9 #[.string s] w fun e w' => e = .returned (.tuple #[.slice none 0 0, .int .i64 n, .int .i64 7]) ∧ Below w.heap.size w w' := by
  refine (reflines_any s w (by omega)).mono ?_
  rintro e w' ⟨hbw, ⟨h, _⟩ | ⟨_, h, rfl⟩ | ⟨_, h, _⟩⟩
  · rw [len_data] at h; omega
  · rw [hb]; exact ⟨rfl, hbw⟩
  · omega
theorem reflines_long (s : ByteArray) (w : World) (hs : s.size ≤ 1000000) (hl : 20000 < s.size) :
    Calls Tryd.prog 9 #[.string s] w fun e w' => e = .returned (.tuple #[.slice none 0 0, .int .i64 0, .int .i64 1]) ∧ Below w.heap.size w w' := by
  refine (reflines_any s w hs).mono ?_
  rintro e w' ⟨hbw, ⟨_, rfl⟩ | ⟨h, _⟩ | ⟨h, _⟩⟩
  · exact ⟨rfl, hbw⟩
  · rw [len_data] at h; omega
  · rw [len_data] at h; omega

theorem wordsL_len : ∀ (k : Nat) (l : List UInt8) (u : List Bx), l.length ≤ k → wordsL l = some u → u.length ≤ l.length
  | k, l, u, hk, h => by
    rcases e : l.drop (sk l) with _ | ⟨c, t⟩
    · rw [wordsL_end e] at h
      cases h
      simp
    · have hl := congrArg List.length e
      rw [List.length_drop, List.length_cons] at hl
      rw [wordsL_of e] at h
      split at h
      · cases h
        simp
      · split at h
        · cases h
        · obtain ⟨u', hu, rfl⟩ := Option.map_eq_some_iff.1 h
          rcases k with _ | k
          · omega
          · have := wordsL_len k _ u' (by rw [List.length_drop]; omega) hu
            rw [List.length_drop] at this
            simp
            omega
theorem goodL_words : ∀ (ls : List (List UInt8)) (no : Nat), ∀ p ∈ goodL no ls, ∃ l ∈ ls, wordsL l = some p.2
  | [], _, p, hp => by simp [goodL] at hp
  | a :: r, no, p, hp => by
    cases h : wordsL a with
    | none =>
      have e : goodL no (a :: r) = goodL (no + 1) r := by simp [goodL, h]
      rw [e] at hp
      obtain ⟨l, h1, h2⟩ := goodL_words r (no + 1) p hp
      exact ⟨l, by simp [h1], h2⟩
    | some u =>
      by_cases hu : u = []
      · subst hu
        rw [goodL_none h] at hp
        obtain ⟨l, h1, h2⟩ := goodL_words r (no + 1) p hp
        exact ⟨l, by simp [h1], h2⟩
      · rw [goodL_some h hu] at hp
        simp only [List.mem_cons] at hp
        rcases hp with rfl | hp
        · exact ⟨a, by simp, h⟩
        · obtain ⟨l, h1, h2⟩ := goodL_words r (no + 1) p hp
          exact ⟨l, by simp [h1], h2⟩
theorem lineHeld_start (wr : World) {g1 g2 k : Nat} {x y : Value} {n : Nat} {u : List Bx} (h1 : wr.cell? ⟨g1, k * 2, none⟩ = some (.int .i64 n)) (h2 : wr.cell? ⟨g1, k * 2 + 1, none⟩ = some x) (h3 : wr.cell? ⟨g2, k * 2, none⟩ = some (.int .i64 n)) (h4 : wr.cell? ⟨g2, k * 2 + 1, none⟩ = some y) (h5 : g1 < wr.heap.size) (h6 : g2 < wr.heap.size) (h7 : SeesB wr x u) (h8 : SeesR wr y u) :
    wr.drew.cell? ⟨g1, k * 2, none⟩ = some (.int .i64 n) ∧ wr.drew.cell? ⟨g1, k * 2 + 1, none⟩ = some x ∧ wr.drew.cell? ⟨g2, k * 2, none⟩ = some (.int .i64 n) ∧ wr.drew.cell? ⟨g2, k * 2 + 1, none⟩ = some y ∧ g1 < wr.drew.heap.size ∧ g2 < wr.drew.heap.size ∧ SeesB wr.drew x u ∧ SeesR wr.drew y u ∧ Below wr.heap.size wr wr.drew :=
  ⟨h1, h2, h3, h4, h5, h6, h7.below (drew_below (Below.refl _ _)), h8.below (drew_below (Below.refl _ _)), drew_below (Below.refl _ _)⟩
theorem lineHeld_keep {wr w1 w2 : World} {g1 g2 k : Nat} {x y : Value} {n : Nat} {u : List Bx} (h : w1.cell? ⟨g1, k * 2, none⟩ = some (.int .i64 n) ∧ w1.cell? ⟨g1, k * 2 + 1, none⟩ = some x ∧ w1.cell? ⟨g2, k * 2, none⟩ = some (.int .i64 n) ∧ w1.cell? ⟨g2, k * 2 + 1, none⟩ = some y ∧ g1 < w1.heap.size ∧ g2 < w1.heap.size ∧ SeesB w1 x u ∧ SeesR w1 y u ∧ Below wr.heap.size wr w1) (hb : Below w1.heap.size w1 w2) :
    w2.cell? ⟨g1, k * 2, none⟩ = some (.int .i64 n) ∧ w2.cell? ⟨g1, k * 2 + 1, none⟩ = some x ∧ w2.cell? ⟨g2, k * 2, none⟩ = some (.int .i64 n) ∧ w2.cell? ⟨g2, k * 2 + 1, none⟩ = some y ∧ g1 < w2.heap.size ∧ g2 < w2.heap.size ∧ SeesB w2 x u ∧ SeesR w2 y u ∧ Below wr.heap.size wr w2 := by
  obtain ⟨h1, h2, h3, h4, h5, h6, h7, h8, h9⟩ := h
  exact ⟨keep hb h1 h5, keep hb h2 h5, keep hb h3 h6, keep hb h4 h6, Nat.lt_of_lt_of_le h5 hb.size, Nat.lt_of_lt_of_le h6 hb.size, h7.below hb, h8.below hb, h9.trans (hb.mono h9.size)⟩

set_option maxHeartbeats 4000000 in
theorem linesLaw_any (s : ByteArray) (hw : s.size ≤ maxLen) (w : World) (h : LibOk w) : Calls Tryd.prog 3 #[.string s] w fun e w' => e = .returned (.bool true) ∧ Below w.heap.size w w' := by
  unfold maxLen at hw
  by_cases hs : s.size ≤ 20100
  · have hs' : (s.size : Int) ≤ 20100 := by omega
    by_cases hl : 20000 < s.size
    · go_enter Tryd.func3, Tryd.ntmps3
      go_wp2_with fail
      refine (lexAwake_any w h).mono ?_
      rintro e w1 ⟨rfl, b1⟩
      have s1 := b1.size
      go_wp2_with fail
      refine (lines_long s _ (by omega) (h.next b1) hl).mono ?_
      rintro e w2 ⟨rfl, b2⟩
      have s2 := b2.size
      go_wp2_with fail
      refine (reflines_long s _ (by omega) hl).mono ?_
      rintro e w3 ⟨rfl, b3⟩
      go_wp2
      go_rounds 1
      go_ret
      exact ⟨rfl, (b1.trans (b2.mono s1)).trans (b3.mono (by omega))⟩
    · by_cases hb : badAt 1 (splitNL s.data.toList) = 0
      · have HB := Lib.hid hb
        have hgl := goodL_len (splitNL s.data.toList) 1
        have hsl := (splitNL_short s.data.toList).1
        rw [len_data] at hsl
        obtain ⟨X, hX⟩ : ∃ X, X = goodL 1 (splitNL s.data.toList) := ⟨_, rfl⟩
        have hXl : X.length ≤ 20001 := by rw [hX]; omega
        have hws : ∀ k (hk : k < X.length), (X[k]'hk).2.length ≤ 100000000 := by
          intro k hk
          obtain ⟨l, h1, h2⟩ := goodL_words (splitNL s.data.toList) 1 (X[k]'hk) (by rw [← hX]; exact List.getElem_mem hk)
          have h3 := wordsL_len _ _ _ (Nat.le_refl _) h2
          have h4 := (splitNL_short s.data.toList).2 l h1
          rw [len_data] at h4
          omega
        have HWS := Lib.hid hws
        have c1 := fun W => lines_good s W (by omega) (hb := hb)
        have c2 := fun W => reflines_good s W (by omega) (hb := hb)
        rw [← hX] at c1 c2
        clear hb hX hgl hsl hws
        go_enter Tryd.func3, Tryd.ntmps3
        go_wp2_with fail
        refine (lexAwake_any w h).mono ?_
        rintro e w1 ⟨rfl, b1⟩
        have s1 := b1.size
        go_wp2_with fail
        refine (c1 _ (h.next b1)).mono ?_
        rintro e w2 ⟨v1, rfl, hL1, b2⟩
        have s2 := b2.size
        go_wp2_with fail
        refine (c2 _).mono ?_
        rintro e w3 ⟨v2, rfl, hL2, b3⟩
        have s3 := b3.size
        have hb3 := (b1.trans (b2.mono s1)).trans (b3.mono (by omega))
        have hL1' := hL1.below b3 fun _ _ h => h.below b3
        clear hL1 c1 c2 b1 b2 b3 h
        rcases hL1' with ⟨rfl, a1, k1, rfl⟩ | ⟨g1, k1, rfl, hg1, e1⟩
        · obtain ⟨a2, k2, rfl⟩ := hL2.form
          go_wp2
          go_rounds 1
          go_ret
          exact ⟨rfl, hb3⟩
        · rcases hL2 with ⟨rfl, a2, k2, rfl⟩ | ⟨g2, k2, rfl, hg2, e2⟩
          · go_wp2
            go_rounds 1
            go_ret
            exact ⟨rfl, hb3⟩
          · have E1 := Lib.hid e1
            have E2 := Lib.hid e2
            clear e1 e2
            go_wp2
            go_loopw [9] (fun i wr => ∃ k : Nat, k ≤ X.length ∧ i = .int .i64 k ∧ Below w3.heap.size w3 wr) (fun i _ => X.length - (intOf i).toNat)
            case atStart => exact ⟨0, by omega, rfl, Below.refl _ _⟩
            case round =>
              obtain ⟨k, hk, rfl, hbr⟩ := hrel
              have hsz := hbr.size
              by_cases hp : k < X.length
              · have hi : (k : Int) < (X.length : Int) := by omega
                obtain ⟨p, hpx⟩ : ∃ p, p = X[k]'hp := ⟨_, rfl⟩
                obtain ⟨m1, x, m2, m3⟩ := E1.out k hp
                obtain ⟨n1, y, n2, n3⟩ := E2.out k hp
                rw [← hpx] at m1 m3 n1 n3
                have hpl : p.2.length ≤ 100000000 := by rw [hpx]; exact HWS.out k hp
                have q1 := keep hbr m1 hg1
                have q2 := keep hbr m2 hg1
                have q3 := keep hbr n1 hg2
                have q4 := keep hbr n2 hg2
                have q5 : g1 < wr.heap.size := by omega
                have q6 : g2 < wr.heap.size := by omega
                have q7 := m3.below hbr
                have q8 := n3.below hbr
                clear hpx m1 m2 m3 n1 n2 n3
                go_wp2_with fail
                go_region_held3 (fun w' => w'.cell? ⟨g1, k * 2, none⟩ = some (.int .i64 p.1) ∧ w'.cell? ⟨g1, k * 2 + 1, none⟩ = some x ∧ w'.cell? ⟨g2, k * 2, none⟩ = some (.int .i64 p.1) ∧ w'.cell? ⟨g2, k * 2 + 1, none⟩ = some y ∧ g1 < w'.heap.size ∧ g2 < w'.heap.size ∧ SeesB w' x p.2 ∧ SeesR w' y p.2 ∧ Below wr.heap.size wr w')
                  (first | exact lineHeld_start wr q1 q2 q3 q4 q5 q6 q7 q8 | assumption | (refine lineHeld_keep ?_ hbc; assumption))
                  (first | (go_at_call 10; refine (sameB_any hpl (by assumption) (by assumption)).mono ?_; rintro e w' ⟨rfl, hbc⟩))
                rcases ‹_ ∧ _ ∧ _ ∧ _ ∧ _ ∧ _ ∧ _ ∧ _ ∧ Below wr.heap.size wr _› with ⟨_, _, _, _, _, _, _, _, hB⟩
                go_wp2
                go_roundw
                case rel => exact ⟨k + 1, by omega, by go_num, hbr.trans (hB.mono hsz)⟩
                case measure => simp [intOf]; omega
              · have hi : ¬ (k : Int) < (X.length : Int) := by omega
                go_wp2
                go_ret
                exact ⟨rfl, hb3.trans (hbr.mono (by omega))⟩
      · obtain ⟨n, hn⟩ : ∃ n, n = badAt 1 (splitNL s.data.toList) := ⟨_, rfl⟩
        have c1 := fun W hW => lines_bad s W (by omega) hW n (by omega) hn.symm
        have c2 := fun W => reflines_bad s W (by omega) n (by omega) hn.symm
        clear hb hn
        go_enter Tryd.func3, Tryd.ntmps3
        go_wp2_with fail
        refine (lexAwake_any w h).mono ?_
        rintro e w1 ⟨rfl, b1⟩
        have s1 := b1.size
        go_wp2_with fail
        refine (c1 _ (h.next b1)).mono ?_
        rintro e w2 ⟨rfl, b2⟩
        have s2 := b2.size
        go_wp2_with fail
        refine (c2 _).mono ?_
        rintro e w3 ⟨rfl, b3⟩
        clear c1 c2
        go_wp2
        go_rounds 1
        go_ret
        exact ⟨rfl, (b1.trans (b2.mono s1)).trans (b3.mono (by omega))⟩
  · have hs' : (20100 : Int) < (s.size : Int) := by omega
    go_enter Tryd.func3, Tryd.ntmps3
    go_wp2_with fail
    refine (lexAwake_any w h).mono ?_
    rintro e w1 ⟨rfl, b1⟩
    have s1 := b1.size
    go_wp2_with fail
    refine (lexAwake_any w1 (h.next b1)).mono ?_
    rintro e w2 ⟨rfl, b2⟩
    go_wp2
    go_ret
    exact ⟨rfl, b1.trans (b2.mono s1)⟩
end Go.Proofs.YtponiboiijgllaaDoor
