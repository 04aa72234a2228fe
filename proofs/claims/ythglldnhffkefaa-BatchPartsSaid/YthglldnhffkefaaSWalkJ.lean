/- What stableCmpFunc and SortStableFunc leave of a row of entries: it sorted, entries of one key in the order in which they stood. Condition: the row has at most 2^40 entries. -/
import Derived.Test.YthglldnhffkefaaSWalkI
namespace Go.Proofs.Ythglldnhffkefaa
open Go.RowKit Go.Op Go.Sort
set_option maxRecDepth 100000

theorem chunk_nil (s : Nat) : chunk s [] = [] := rfl
set_option maxHeartbeats 4000000 in
theorem stable_any (w0 : World) (g cap n : Nat) (l : List En) (w : World) (R : Sow w0 g n) (hsz : n ≤ 1099511627776) (hl : l.length = n) (h : Srt w0 g l w) :
    Calls Try.prog 36 #[.slice (some ⟨g, 0, none⟩) n cap, .int .i64 (n : Int), .func (.func 27) #[] #[]] w fun ed w' => ed = .returned (.tuple #[]) ∧ Srt w0 g (sortL l) w' := by
  have H0 := Lib.hid h
  have HR := Lib.hid R
  have HL := Lib.hid hl
  clear h R hl
  go_enter Try.func36, Try.ntmps36
  go_wp2
  go_loopw [7, 8] (fun av bv wr => ∃ (a b : Nat) (A r : List En), av = .int .i64 (a : Int) ∧ bv = .int .i64 (b : Int) ∧ Hid (b = a + 20) ∧ b ≤ n + 20 ∧ A.length = a ∧ a + r.length = n ∧ Hid (A ++ chunk 20 r = chunk 20 l) ∧ Hid (Srt w0 g (A ++ r) wr)) (fun _ bv _ => n + 20 - (intOf bv).toNat)
  case atStart => exact ⟨0, 20, [], l, rfl, rfl, Lib.hid rfl, by omega, rfl, by simpa using HL.out, Lib.hid rfl, H0⟩
  case round =>
    obtain ⟨a, b, A, r, rfl, rfl, HAB, hbn, ha, har, HC, HS⟩ := hrel
    clear H0
    by_cases hlt : b ≤ n
    · have i0 : (b : Int) ≤ (n : Int) := by omega
      have hab := HAB.out
      have HI := Lib.hid (insertion_any w0 g cap n a b A (r.take 20) (r.drop 20) wr HR.out (by rw [List.length_take, List.length_drop]; omega) hsz ha (by rw [List.length_take]; omega) (by rw [List.take_append_drop]; exact HS.out))
      obtain ⟨b2, hb2⟩ : ∃ b2, b2 = b + 20 := ⟨_, rfl⟩
      have e1 : (b : Int) + 20 = (b2 : Int) := by omega
      have HB2 := Lib.hid hb2
      clear hb2 hab
      go_wp2_with fail
      refine HI.out.mono ?_
      rintro e w1 ⟨rfl, h1⟩
      have HF : Hid (Srt w0 g ((A ++ sortL (r.take 20)) ++ r.drop 20) w1) := Lib.hid (by simpa using h1)
      have HC2 : Hid ((A ++ sortL (r.take 20)) ++ chunk 20 (r.drop 20) = chunk 20 l) := Lib.hid (by rw [← HC.out, chunk_more (by decide) r]; simp)
      clear h1
      go_wp2
      go_roundw
      case rel => exact ⟨b, b2, A ++ sortL (r.take 20), r.drop 20, rfl, rfl, HB2, by have := HB2.out; omega, by have := HAB.out; rw [List.length_append, sort_length, List.length_take]; omega, by have := HAB.out; rw [List.length_drop]; omega, HC2, HF⟩
      case measure => have := HB2.out; simp [intOf]; omega
    · have i0 : ¬ (b : Int) ≤ (n : Int) := by omega
      have hab := HAB.out
      have HI := Lib.hid (insertion_any w0 g cap n a n A r [] wr HR.out (by simp; omega) hsz ha har (by rw [List.append_nil]; exact HS.out))
      have hr20 : r.length ≤ 20 := by omega
      clear hab
      go_wp2_with fail
      refine HI.out.mono ?_
      rintro e w1 ⟨rfl, h1⟩
      have HF : Hid (Srt w0 g (chunk 20 l) w1) := Lib.hid (by rw [← HC.out, chunk_few hr20]; simpa using h1)
      clear h1 i0 HS HC HI hr20 har ha hbn hlt
      go_wp2
      go_loopw [6] (fun sv wr => ∃ (s : Nat), sv = .int .i64 (s : Int) ∧ 20 ≤ s ∧ s ≤ 2199023255552 ∧ Hid (Srt w0 g (chunk s l) wr)) (fun sv _ => n - (intOf sv).toNat)
      case atStart => exact ⟨20, rfl, by omega, by omega, HF⟩
      case round =>
        obtain ⟨s, rfl, hs1, hs2, HS⟩ := hrel
        clear HF
        by_cases hsn : s < n
        · have i0 : (s : Int) < (n : Int) := by omega
          obtain ⟨s2, hs22⟩ : ∃ s2, s2 = 2 * s := ⟨_, rfl⟩
          have e1 : 2 * (s : Int) = (s2 : Int) := by omega
          have e2 : (s : Int) * 2 = (s2 : Int) := by omega
          have HS2 := Lib.hid hs22
          have HS0 : Hid (0 < s) := Lib.hid (by omega)
          have hs23 : s2 ≤ 2199023255552 := by omega
          have hs24 : s < s2 := by omega
          obtain ⟨wo, hwo⟩ : ∃ wo, wo = wr := ⟨_, rfl⟩
          subst hwo
          clear hs22
          go_wp2
          go_loopw [7, 8] (fun av bv wr => ∃ (a b : Nat) (A r : List En), av = .int .i64 (a : Int) ∧ bv = .int .i64 (b : Int) ∧ Hid (b = a + s2) ∧ b ≤ n + s2 ∧ A.length = a ∧ a + r.length = n ∧ Hid (A ++ chunk s2 r = chunk s2 l) ∧ Hid (Srt w0 g (A ++ chunk s r) wr)) (fun _ bv _ => n + s2 - (intOf bv).toNat)
          case atStart => exact ⟨0, s2, [], l, rfl, rfl, Lib.hid (by omega), by omega, rfl, by have := HL.out; omega, Lib.hid rfl, HS⟩
          case round =>
            obtain ⟨a, b, A, r, rfl, rfl, HAB, hbn, ha, har, HC, HS3⟩ := hrel
            clear HS
            by_cases hlt : b ≤ n
            · have i1 : (b : Int) ≤ (n : Int) := by omega
              have hab := HAB.out
              have h2s := HS2.out
              obtain ⟨k1, k2⟩ := chunk_two HS0.out r
              rw [← h2s] at k1 k2
              obtain ⟨m, hm⟩ : ∃ m, m = a + s := ⟨_, rfl⟩
              have e3 : (a : Int) + (s : Int) = (m : Int) := by omega
              have HI := Lib.hid (sym_any w0 g cap n a m b A (sortL (r.take s)) (sortL ((r.drop s).take s)) (chunk s (r.drop s2)) wr HR.out hsz (by rw [sort_length, List.length_take]; omega) (by rw [sort_length, List.length_take, List.length_drop]; omega)
                (by rw [sort_length, sort_length, chunk_length HS0.out _ _ (Nat.le_refl _), List.length_take, List.length_take, List.length_drop, List.length_drop]; omega) ha (by rw [sort_length, List.length_take]; omega) (by rw [sort_length, List.length_take, List.length_drop]; omega) (up_sort _) (up_sort _) (by have := HS3.out; rwa [k1] at this))
              obtain ⟨b2, hb2⟩ : ∃ b2, b2 = b + s2 := ⟨_, rfl⟩
              have e4 : (b : Int) + (s2 : Int) = (b2 : Int) := by omega
              have HB2 := Lib.hid hb2
              have HN : Hid (sortL (sortL (r.take s) ++ sortL ((r.drop s).take s)) ++ chunk s2 (r.drop s2) = chunk s2 r) := Lib.hid k2.symm
              have HNL : Hid ((sortL (sortL (r.take s) ++ sortL ((r.drop s).take s))).length = s2) := Lib.hid (by rw [sort_length, List.length_append, sort_length, sort_length, List.length_take, List.length_take, List.length_drop]; omega)
              clear hb2 hab h2s k1 k2 hm
              go_wp2_with fail
              refine HI.out.mono ?_
              rintro e w1 ⟨rfl, h1⟩
              generalize sortL (sortL (r.take s) ++ sortL ((r.drop s).take s)) = z at h1 HN HNL
              have HF : Hid (Srt w0 g ((A ++ z) ++ chunk s (r.drop s2)) w1) := Lib.hid (by simpa using h1)
              have HC2 : Hid ((A ++ z) ++ chunk s2 (r.drop s2) = chunk s2 l) := Lib.hid (by rw [← HC.out, ← HN.out]; simp)
              clear h1 HI
              go_wp2
              go_roundw
              case rel => exact ⟨b, b2, A ++ z, r.drop s2, rfl, rfl, HB2, by have := HB2.out; omega, by have := HAB.out; have := HNL.out; rw [List.length_append]; omega, by have := HAB.out; rw [List.length_drop]; omega, HC2, HF⟩
              case measure => have := HB2.out; simp [intOf]; omega
            · have i1 : ¬ (b : Int) ≤ (n : Int) := by omega
              have hab := HAB.out
              have h2s := HS2.out
              obtain ⟨m, hm⟩ : ∃ m, m = a + s := ⟨_, rfl⟩
              have e3 : (a : Int) + (s : Int) = (m : Int) := by omega
              by_cases hmn : m < n
              · have i2 : (m : Int) < (n : Int) := by omega
                obtain ⟨k1, k2⟩ := chunk_last HS0.out (l := r) (by omega) (by omega)
                rw [← h2s] at k2
                have HI := Lib.hid (sym_any w0 g cap n a m n A (sortL (r.take s)) (sortL (r.drop s)) [] wr HR.out hsz (by rw [sort_length, List.length_take]; omega) (by rw [sort_length, List.length_drop]; omega)
                  (by rw [sort_length, sort_length, List.length_take, List.length_drop, List.length_nil]; omega) ha (by rw [sort_length, List.length_take]; omega) (by rw [sort_length, List.length_drop]; omega) (up_sort _) (up_sort _) (by have := HS3.out; rw [k1] at this; simpa using this))
                have HN := Lib.hid k2
                clear hab h2s k1 k2 hm
                go_wp2_with fail
                refine HI.out.mono ?_
                rintro e w1 ⟨rfl, h1⟩
                have HF : Hid (Srt w0 g (chunk s2 l) w1) := Lib.hid (by rw [← HC.out, HN.out]; simpa using h1)
                clear h1 HI
                go_wp2
                go_roundw
                case rel => exact ⟨s2, rfl, by omega, hs23, HF⟩
                case measure => simp [intOf]; omega
              · have i2 : ¬ (m : Int) < (n : Int) := by omega
                have HF : Hid (Srt w0 g (chunk s2 l) wr) := Lib.hid (by
                  rw [← HC.out, chunk_few (by omega)]
                  have := HS3.out
                  rwa [chunk_few (by omega)] at this)
                clear hab h2s hm
                go_wp2
                go_roundw
                case rel => exact ⟨s2, rfl, by omega, hs23, HF⟩
                case measure => simp [intOf]; omega
        · have i0 : ¬ (s : Int) < (n : Int) := by omega
          have HE : Hid (Srt w0 g (sortL l) wr) := Lib.hid (by
            have := HS.out
            rwa [chunk_few (by have := HL.out; omega)] at this)
          go_wp2
          go_end0
          exact ⟨rfl, HE.out⟩
theorem sortstable_any (w0 : World) (g cap n : Nat) (l : List En) (w : World) (R : Sow w0 g n) (hsz : n ≤ 1099511627776) (hl : l.length = n) (h : Srt w0 g l w) :
    Calls Try.prog 26 #[.slice (some ⟨g, 0, none⟩) n cap, .func (.func 27) #[] #[]] w fun ed w' => ed = .returned (.tuple #[]) ∧ Srt w0 g (sortL l) w' := by
  have HC := Lib.hid (stable_any w0 g cap n l w R hsz hl h)
  clear h R hl
  go_enter Try.func26, Try.ntmps26
  go_wp2_with fail
  refine HC.out.mono ?_
  rintro e w1 ⟨rfl, h1⟩
  have HF := Lib.hid h1
  clear h1
  go_wp2
  go_end0
  exact ⟨rfl, HF.out⟩
/-- The empty row: nothing is asked of memory. -/
theorem insertion_none (w : World) : Calls Try.prog 38 #[.slice none 0 0, .int .i64 0, .int .i64 0, .func (.func 27) #[] #[]] w fun ed w' => ed = .returned (.tuple #[]) ∧ w = w' := by
  go_enter Try.func38, Try.ntmps38
  go_wp2
  go_loopw [8] (fun iv wr => iv = .int .i64 1 ∧ w = wr) (fun _ _ => 0)
  case atStart => exact ⟨rfl, rfl⟩
  case round =>
    obtain ⟨rfl, rfl⟩ := hrel
    go_wp2
    go_end0
    exact ⟨rfl, rfl⟩
theorem stable_none (w : World) : Calls Try.prog 36 #[.slice none 0 0, .int .i64 0, .func (.func 27) #[] #[]] w fun ed w' => ed = .returned (.tuple #[]) ∧ w = w' := by
  have hc := insertion_none
  go_enter Try.func36, Try.ntmps36
  go_wp2
  go_loopw [7, 8] (fun av bv wr => av = .int .i64 0 ∧ bv = .int .i64 20 ∧ w = wr) (fun _ _ _ => 0)
  case atStart => exact ⟨rfl, rfl, rfl⟩
  case round =>
    obtain ⟨rfl, rfl, rfl⟩ := hrel
    go_wp2_with fail
    refine (hc _).mono ?_
    rintro e w1 ⟨rfl, rfl⟩
    go_wp2
    go_loopw [6] (fun sv wr => sv = .int .i64 20 ∧ w = wr) (fun _ _ => 0)
    case atStart => exact ⟨rfl, rfl⟩
    case round =>
      obtain ⟨rfl, rfl⟩ := hrel
      go_wp2
      go_end0
      exact ⟨rfl, rfl⟩
theorem sortstable_none (w : World) : Calls Try.prog 26 #[.slice none 0 0, .func (.func 27) #[] #[]] w fun ed w' => ed = .returned (.tuple #[]) ∧ w = w' := by
  have hc := stable_none
  go_enter Try.func26, Try.ntmps26
  go_wp2_with fail
  refine (hc _).mono ?_
  rintro e w1 ⟨rfl, rfl⟩
  go_wp2
  go_end0
  exact ⟨rfl, rfl⟩
end Go.Proofs.Ythglldnhffkefaa
