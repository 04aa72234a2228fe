/- What Word, Store, Swap, Free, Retire, Reap answer and make of memory. Conditions: counts and live cells are below 2 to the 62; generations are between 0 and 16384; only what holds something is retired. -/
import Derived.Test.YteiikkkcjpfapaaDoorWalkE
namespace Go.Proofs.YteiikkkcjpfapaaDoor
open Go.RowKit Go.Op
set_option maxRecDepth 100000

theorem word_any (w : World) (b c r : Nat) (m : M) (h : Int) (hA : At w b c r m) (hO : m.Ok 2305843009213693952) :
    Calls Tryd.prog 50 #[.pointer (some ⟨b, 0, none⟩), .int .i64 h] w fun e w' => e = .returned (.tuple #[.int .i64 (m.word h).2.1, .int .i64 (m.word h).2.2]) ∧ At w' b c r (m.word h).1 ∧ Kept b c r w w' := by
  have hO2 : m.Ok 4611686018427387904 := hO.mono (by decide)
  cases hs : m.seek h with
  | none =>
    have hf := fword_no w b c r m h hA hO2 hs
    have e1 : m.word h = (m.miss, 0, 5) := by simp only [M.word, at_none hs]
    rw [e1]
    clear hA hO hO2 hs e1
    go_enter Tryd.func50, Tryd.ntmps50
    go_wp2_with fail
    refine hf.mono ?_
    rintro e w1 ⟨rfl, h1, h2⟩
    have HE := Lib.hid (⟨h1, h2⟩ : _ ∧ _)
    clear h1 h2
    go_wp2
    go_ret2
    exact ⟨rfl, HE.out⟩
  | some p =>
    obtain ⟨_, _, x, hx, hb, _⟩ := M.seek_some hs
    cases hh : x.held with
    | no => rw [hh] at hb; cases hb
    | word n =>
      have hf := fword_word w b c r m h p x n hA hO2 hs hx hh
      have e1 : m.word h = (m.ask, n, 0) := by simp only [M.word, at_some hs hx, hh]
      rw [e1]
      clear hA hO hO2 hs e1 hb hh hx
      go_enter Tryd.func50, Tryd.ntmps50
      go_wp2_with fail
      refine hf.mono ?_
      rintro e w1 ⟨rfl, h1, h2⟩
      have HE := Lib.hid (⟨h1, h2⟩ : _ ∧ _)
      clear h1 h2
      go_wp2
      go_ret2
      exact ⟨rfl, HE.out⟩
    | desc n =>
      have hf := fword_desc w b c r m h p x n hA hO2 hs hx hh
      have e1 : m.word h = (m.ask, 0, 6) := by simp only [M.word, at_some hs hx, hh]
      rw [e1]
      clear hA hO hO2 hs e1 hb hh hx
      go_enter Tryd.func50, Tryd.ntmps50
      go_wp2_with fail
      refine hf.mono ?_
      rintro e w1 ⟨rfl, h1, h2⟩
      have HE := Lib.hid (⟨h1, h2⟩ : _ ∧ _)
      clear h1 h2
      go_wp2
      go_ret2
      exact ⟨rfl, HE.out⟩
    | text n =>
      have hf := fword_text w b c r m h p x n hA hO2 hs hx hh
      have e1 : m.word h = (m.ask, 0, 6) := by simp only [M.word, at_some hs hx, hh]
      rw [e1]
      clear hA hO hO2 hs e1 hb hh hx
      go_enter Tryd.func50, Tryd.ntmps50
      go_wp2_with fail
      refine hf.mono ?_
      rintro e w1 ⟨rfl, h1, h2⟩
      have HE := Lib.hid (⟨h1, h2⟩ : _ ∧ _)
      clear h1 h2
      go_wp2
      go_ret2
      exact ⟨rfl, HE.out⟩

theorem swap_any (w : World) (b c r : Nat) (m : M) (h : Int) (old n : Int) (hA : At w b c r m) (hO : m.Ok 2305843009213693952) :
    Calls Tryd.prog 72 #[.pointer (some ⟨b, 0, none⟩), .int .i64 h, .int .i64 old, .int .i64 n] w fun e w' => e = .returned (.tuple #[.bool (m.swap h old n).2.1, .int .i64 (m.swap h old n).2.2]) ∧ At w' b c r (m.swap h old n).1 ∧ Kept b c r w w' := by
  have hO2 : m.Ok 4611686018427387904 := hO.mono (by decide)
  have mk := mk90
  cases hs : m.seek h with
  | none =>
    have hf := fword_no w b c r m h hA hO2 hs
    have e1 : m.swap h old n = (m.miss, false, 5) := by simp only [M.swap, at_none hs]
    rw [e1]
    clear hA hO hO2 hs e1
    go_enter Tryd.func72, Tryd.ntmps72
    go_wp2_with fail
    refine hf.mono ?_
    rintro e w1 ⟨rfl, h1, h2⟩
    have HE := Lib.hid (⟨h1, h2⟩ : _ ∧ _)
    clear h1 h2
    go_wp2
    go_ret2
    exact ⟨rfl, HE.out⟩
  | some p =>
    obtain ⟨_, _, x, hx, hb, _⟩ := M.seek_some hs
    cases hh : x.held with
    | no => rw [hh] at hb; cases hb
    | word k =>
      have hf := fword_word w b c r m h p x k hA hO2 hs hx hh
      by_cases hk : k = old
      · have e1 : m.swap h old n = (m.ask.put p { x with held := .word n }, true, 0) := by simp only [M.swap, at_some hs hx, hh, if_pos hk]
        rw [e1]
        subst hk
        clear hA hO hO2 hs e1 hb
        go_enter Tryd.func72, Tryd.ntmps72
        go_wp2_with fail
        refine hf.mono ?_
        rintro e w1 ⟨rfl, h1, h2⟩
        have hp := At.put0 h1 hx (by rw [hh]; rfl) (t := .word n) rfl
        have k0 := (h1.cl p x hx).1
        rw [hh] at k0
        simp only [Held.v] at k0 hp
        have fc := h1.own.fc
        have HE := Lib.hid (⟨hp, h2.set (a := ⟨c, p * 4, none⟩) (.inr (.inl rfl)) (.iface 113 (.int .i64 n))⟩ : _ ∧ _)
        clear h1 h2 hx hh hp
        go_wp2
        go_ret2
        exact ⟨rfl, HE.out⟩
      · have e1 : m.swap h old n = (m.ask, false, 0) := by simp only [M.swap, at_some hs hx, hh, if_neg hk]
        rw [e1]
        have hk2 : (k == old) = false := by simpa using hk
        clear hA hO hO2 hs e1 hb hh hx hk
        go_enter Tryd.func72, Tryd.ntmps72
        go_wp2_with fail
        refine hf.mono ?_
        rintro e w1 ⟨rfl, h1, h2⟩
        have HE := Lib.hid (⟨h1, h2⟩ : _ ∧ _)
        clear h1 h2
        go_wp2
        go_ret2
        exact ⟨rfl, HE.out⟩
    | desc k =>
      have hf := fword_desc w b c r m h p x k hA hO2 hs hx hh
      have e1 : m.swap h old n = (m.ask, false, 6) := by simp only [M.swap, at_some hs hx, hh]
      rw [e1]
      clear hA hO hO2 hs e1 hb hh hx
      go_enter Tryd.func72, Tryd.ntmps72
      go_wp2_with fail
      refine hf.mono ?_
      rintro e w1 ⟨rfl, h1, h2⟩
      have HE := Lib.hid (⟨h1, h2⟩ : _ ∧ _)
      clear h1 h2
      go_wp2
      go_ret2
      exact ⟨rfl, HE.out⟩
    | text k =>
      have hf := fword_text w b c r m h p x k hA hO2 hs hx hh
      have e1 : m.swap h old n = (m.ask, false, 6) := by simp only [M.swap, at_some hs hx, hh]
      rw [e1]
      clear hA hO hO2 hs e1 hb hh hx
      go_enter Tryd.func72, Tryd.ntmps72
      go_wp2_with fail
      refine hf.mono ?_
      rintro e w1 ⟨rfl, h1, h2⟩
      have HE := Lib.hid (⟨h1, h2⟩ : _ ∧ _)
      clear h1 h2
      go_wp2
      go_ret2
      exact ⟨rfl, HE.out⟩

theorem free_any (w : World) (b c r : Nat) (m : M) (h : Int) (hA : At w b c r m) (hO : m.Ok 2305843009213693952) :
    Calls Tryd.prog 68 #[.pointer (some ⟨b, 0, none⟩), .int .i64 h] w fun e w' => e = .returned (.int .i64 (m.free h).2) ∧ At w' b c r (m.free h).1 ∧ Kept b c r w w' := by
  have hO2 : m.Ok 4611686018427387904 := hO.mono (by decide)
  cases hs : m.seek h with
  | none =>
    have hf := find_no w b c r m h hA hO2 hs
    have e1 : m.free h = (m.miss, 5) := by simp only [M.free, at_none hs]
    rw [e1]
    clear hA hO hO2 hs e1
    go_enter Tryd.func68, Tryd.ntmps68
    go_wp2_with fail
    refine hf.mono ?_
    rintro e w1 ⟨rfl, h1, h2⟩
    have HE := Lib.hid (⟨h1, h2⟩ : _ ∧ _)
    clear h1 h2
    go_wp2
    go_ret
    exact ⟨rfl, HE.out⟩
  | some p =>
    obtain ⟨hi, hp, x, hx, hb, _⟩ := M.seek_some hs
    have hf := find_yes w b c r m h p hA hO2 hs
    have e1 : m.free h = (m.ask.drop p x, 0) := by simp only [M.free, at_some hs hx]
    have hd := fun w1 (h1 : At w1 b c r m.ask) => drop_any w1 b c r m.ask p x h1 (hO.ask.mono (by decide)) hx hb
    have hpl := fun w => place_any h w
    have e2 : placeOf h = p := by simp only [placeOf, hi, if_true]; exact hp.symm
    rw [e2] at hpl
    rw [e1]
    have HD := Lib.hid hd
    clear hA hO hO2 hs e1 hb hx hp hd
    go_enter Tryd.func68, Tryd.ntmps68
    go_wp2_with fail
    refine hf.mono ?_
    rintro e w1 ⟨rfl, h1, h2⟩
    have hd1 := HD.out w1 h1
    clear h1
    go_wp2_with fail
    refine (hpl _).mono ?_
    rintro e w2 ⟨rfl, rfl⟩
    go_wp2_with fail
    refine hd1.mono ?_
    rintro e w3 ⟨rfl, h3, h4⟩
    have HE := Lib.hid (⟨h3, h2.trans h4⟩ : _ ∧ _)
    clear h2 h3 h4
    go_wp2
    go_ret
    exact ⟨rfl, HE.out⟩

theorem retire_any (w : World) (b c r : Nat) (m : M) (h : Int) (s : Int) (hA : At w b c r m) (hO : m.Ok 2305843009213693952) :
    Calls Tryd.prog 74 #[.pointer (some ⟨b, 0, none⟩), .int .i64 h, .int .i64 s] w fun e w' => e = .returned (.int .i64 (m.retire h s).2) ∧ At w' b c r (m.retire h s).1 ∧ Kept b c r w w' := by
  have hO2 : m.Ok 4611686018427387904 := hO.mono (by decide)
  cases hs : m.seek h with
  | none =>
    have hf := find_no w b c r m h hA hO2 hs
    have e1 : m.retire h s = (m.miss, 5) := by simp only [M.retire, at_none hs]
    rw [e1]
    clear hA hO hO2 hs e1
    go_enter Tryd.func74, Tryd.ntmps74
    go_wp2_with fail
    refine hf.mono ?_
    rintro e w1 ⟨rfl, h1, h2⟩
    have HE := Lib.hid (⟨h1, h2⟩ : _ ∧ _)
    clear h1 h2
    go_wp2
    go_ret
    exact ⟨rfl, HE.out⟩
  | some p =>
    obtain ⟨hi, hp, x, hx, hb, _⟩ := M.seek_some hs
    have hf := find_yes w b c r m h p hA hO2 hs
    have e1 : m.retire h s = (m.ask.put p (x.retired s), 0) := by simp only [M.retire, at_some hs hx]
    have hfl : m.flags.set p false = m.flags := set_val (by have := flags_at hx; rwa [can_busy hb] at this)
    rw [e1]
    by_cases hn : x.ret = true ∧ s ≤ x.stamp
    · have e2 : x.retired s = x := by
        unfold Cl.retired
        rw [if_pos hn]
        cases x
        simp only at hn
        rw [hn.1]
      have e3 : m.ask.put p (x.retired s) = m.ask := by
        rw [e2]
        unfold M.put M.ask
        rw [set_val hx]
      rw [e3]
      obtain ⟨g1, g2⟩ := hn
      have g3 : decide (x.stamp < s) = false := decide_eq_false (by omega)
      clear hA hO hO2 hs e1 e2 e3 hb hfl
      go_enter Tryd.func74, Tryd.ntmps74
      go_wp2_with fail
      refine hf.mono ?_
      rintro e w1 ⟨rfl, h1, h2⟩
      obtain ⟨_, _, k2, k3⟩ := h1.cl p x hx
      rw [g1] at k2
      have HE := Lib.hid (⟨h1, h2⟩ : _ ∧ _)
      clear h1 h2 hx g1
      go_wp2
      go_ret
      exact ⟨rfl, HE.out⟩
    · have e2 : x.retired s = { x with ret := true, stamp := s } := by
        unfold Cl.retired
        rw [if_neg hn]
      rw [e2]
      clear hO hO2 hs e1 e2 hA
      have HE1 : Hid (∀ w1, At w1 b c r m.ask → Kept b c r w w1 → At ((w1.setCell ⟨c, p * 4 + 2, none⟩ (.bool true)).setCell ⟨c, p * 4 + 3, none⟩ (.int .i64 s)) b c r (m.ask.put p { x with ret := true, stamp := s }) ∧ Kept b c r w ((w1.setCell ⟨c, p * 4 + 2, none⟩ (.bool true)).setCell ⟨c, p * 4 + 3, none⟩ (.int .i64 s))) := by
        intro w1 h1 h2
        have q2 := (h1.cl p x hx).put2 true
        have q3 := q2.put3 s
        have a3 := (AtF.put h1 (i := p) (by omega) q2).put (i := p) (by simp) q3
        simp only [List.set_set] at a3
        refine ⟨?_, (h2.set (.inr (.inl rfl)) _).set (.inr (.inl rfl)) _⟩
        unfold At M.put
        rw [flags_set, can_busy (x := { x with ret := true, stamp := s }) hb]
        have e5 : m.ask.flags.set p false = m.ask.flags := hfl
        rw [e5]
        exact a3
      clear hfl hb
      cases hr : x.ret with
      | false =>
        clear hn
        go_enter Tryd.func74, Tryd.ntmps74
        go_wp2_with fail
        refine hf.mono ?_
        rintro e w1 ⟨rfl, h1, h2⟩
        obtain ⟨_, _, k2, k3⟩ := h1.cl p x hx
        rw [hr] at k2
        have fc := h1.own.fc
        have HE := Lib.hid (HE1.out w1 h1 h2)
        clear h1 h2 hx hr
        go_wp2
        go_ret
        exact ⟨rfl, HE.out⟩
      | true =>
        have g3 : decide (x.stamp < s) = true := decide_eq_true (by
          have : ¬ s ≤ x.stamp := fun e => hn ⟨hr, e⟩
          omega)
        clear hn
        go_enter Tryd.func74, Tryd.ntmps74
        go_wp2_with fail
        refine hf.mono ?_
        rintro e w1 ⟨rfl, h1, h2⟩
        obtain ⟨_, _, k2, k3⟩ := h1.cl p x hx
        rw [hr] at k2
        have fc := h1.own.fc
        have HE := Lib.hid (HE1.out w1 h1 h2)
        clear h1 h2 hx hr
        go_wp2
        go_ret
        exact ⟨rfl, HE.out⟩
end Go.Proofs.YteiikkkcjpfapaaDoor
