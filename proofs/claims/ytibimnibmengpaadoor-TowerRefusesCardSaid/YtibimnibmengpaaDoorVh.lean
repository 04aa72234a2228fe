/- A port's Store, and what it comes to where nobody stops it. Condition: at most 900000 asks. -/
import Derived.Test.YtibimnibmengpaaDoorVg
namespace Go.Proofs.YtibimnibmengpaaDoor
open Go.RowKit Go.Op
set_option maxRecDepth 100000

theorem store_any (w : World) (b c r : Nat) (m : M) (h : Int) (n : Int) (hA : At w b c r m) (hO : m.Ok 2305843009213693952) :
    Calls Tryd.prog 53 #[.pointer (some ⟨b, 0, none⟩), .int .i64 h, .int .i64 n] w fun e w' => e = .returned (.int .i64 (m.store h n).2) ∧ At w' b c r (m.store h n).1 ∧ Kept b c r w w' := by
  have hO2 : m.Ok 4611686018427387904 := hO.mono (by decide)
  have mk := mk90
  cases hs : m.seek h with
  | none =>
    have hf := fword_no w b c r m h hA hO2 hs
    have e1 : m.store h n = (m.miss, 5) := by simp only [M.store, at_none hs]
    rw [e1]
    clear hA hO hO2 hs e1
    go_enter Tryd.func53, Tryd.ntmps53
    go_wp2_with fail
    refine hf.mono ?_
    rintro e w1 ⟨rfl, h1, h2⟩
    have HE := Lib.hid (⟨h1, h2⟩ : _ ∧ _)
    clear h1 h2
    go_wp2
    go_ret
    exact ⟨rfl, HE.out⟩
  | some p =>
    obtain ⟨_, _, x, hx, hb, _⟩ := M.seek_some hs
    cases hh : x.held with
    | no => rw [hh] at hb; cases hb
    | word k =>
      have hf := fword_word w b c r m h p x k hA hO2 hs hx hh
      have e1 : m.store h n = (m.ask.put p { x with held := .word n }, 0) := by simp only [M.store, at_some hs hx, hh]
      rw [e1]
      clear hA hO hO2 hs e1 hb
      go_enter Tryd.func53, Tryd.ntmps53
      go_wp2_with fail
      refine hf.mono ?_
      rintro e w1 ⟨rfl, h1, h2⟩
      have hp := At.put0 h1 hx (by rw [hh]; rfl) (t := .word n) rfl
      have k0 := (h1.cl p x hx).1
      rw [hh] at k0
      simp only [Held.v] at k0 hp
      have fc := h1.own.fc
      have HE := Lib.hid (⟨hp, h2.set (a := ⟨c, p * 4, none⟩) (.inr (.inl rfl)) (.iface 128 (.int .i64 n))⟩ : _ ∧ _)
      clear h1 h2 hx hh hp
      go_wp2
      go_ret
      exact ⟨rfl, HE.out⟩
    | blk d pl =>
      have hf := fword_blk w b c r m h p x d pl hA hO2 hs hx hh
      have e1 : m.store h n = (m.ask, 6) := by simp only [M.store, at_some hs hx, hh]
      rw [e1]
      clear hA hO hO2 hs e1 hb hh hx
      go_enter Tryd.func53, Tryd.ntmps53
      go_wp2_with fail
      refine hf.mono ?_
      rintro e w1 ⟨rfl, h1, h2⟩
      have HE := Lib.hid (⟨h1, h2⟩ : _ ∧ _)
      clear h1 h2
      go_wp2
      go_ret
      exact ⟨rfl, HE.out⟩

section
variable {w0 : World} {b c r : Nat} {N : Int} {w : World} {m : M}
theorem Has.store (h : Has w0 b c r N w m) (hN : N ≤ 1000000000) (a n : Int) : Calls Tryd.prog 53 #[.pointer (some ⟨b, 0, none⟩), .int .i64 a, .int .i64 n] w fun e w' => e = .returned (.int .i64 (m.store a n).2) ∧ Has w0 b c r (N + 1) w' (m.store a n).1 ∧ Kept b c r w w' := by
  refine (store_any w b c r m a n h.at_ (h.ok.mono (by omega))).mono ?_
  rintro e w1 ⟨rfl, ha, k⟩
  exact ⟨rfl, h.step ha k (h.ok.store a n), k⟩
end
section
variable {w0 : World} {b c r : Nat} {N : Int} {G : List (Nat × List Value)} {pb po : Nat} {t : Value} {w : World} {m : M} {s : Pt}
theorem pstore_any (h : Sys w0 b c r N G pb po t w m s) (hN : N ≤ 1000000) (hs : s.Ok) (k n : Int) :
    Calls Tryd.prog 33 #[.pointer (some ⟨pb, po, none⟩), .int .i64 k, .int .i64 n] w fun e w' => Asked w0 b c r N G pb po t w m s (.store k n) e w' := by
  unfold Asked
  cases hx : s.told[s.place]? with
  | some a =>
    rw [Pt.ask_told hx]
    have hw := again_told h.pt (List.getElem?_eq_some_iff.1 hx).1 hs.len
    obtain ⟨g, cap, et, hg, -, hgl, d0, d1, d2, d3⟩ := h.pt.see hx
    have HS := Lib.hid h
    have HG := Lib.hid (⟨hg, hgl, d0, d1, d2, d3⟩ : g ≠ pb ∧ g < w.heap.size ∧ _ ∧ _ ∧ _ ∧ _)
    have HE := Lib.hid et
    clear h hN hs hx et hg hgl d0 d1 d2 d3
    go_enter Tryd.func33, Tryd.ntmps33
    go_wp2_with fail
    refine hw.mono ?_
    rintro e w1 ⟨⟨g1, cap1, et1, rfl⟩, h1, h2⟩
    obtain rfl : g = g1 := by cases HE.out.symm.trans et1; rfl
    have k1 : ∀ i, w1.cell? ⟨g, i, none⟩ = w.cell? ⟨g, i, none⟩ := fun i => World.cell?_of_block (w := w) (h2.block g HG.out.2.1 HG.out.1)
    have d1 := (k1 _).trans HG.out.2.2.2.1
    have d2 := (k1 _).trans HG.out.2.2.2.2.1
    have d3 := (k1 _).trans HG.out.2.2.2.2.2
    have H1 := Lib.hid (fun n => (HS.out.port h1 h2).later (below_drewN w1 n))
    have H2 := Lib.hid (fun n => (But5.of1 (b := b) (c := c) (r := r) (t := t) h2).trans (But5.of (below_drewN w1 n)))
    clear hw h1 h2 k1 et1
    go_wp2_with fail
    go_wp2
    go_ret
    exact ⟨t, rfl, (H1.out 0).less (by omega), (H2.out 0), Row2.refl _ _⟩
  | none =>
    have hi := hs.none hx
    cases hsp : s.spent with
    | true =>
      rw [Pt.ask_halt hx hsp]
      have hw := again_halt h.pt hi hsp hs.len
      have HS := Lib.hid h
      clear h hs hx hi hsp
      go_enter Tryd.func33, Tryd.ntmps33
      go_wp2_with fail
      refine hw.mono ?_
      rintro e w1 ⟨rfl, h1, h2⟩
      have H1 := Lib.hid (HS.out.port h1 h2)
      have H2 := Lib.hid (But5.of1 (b := b) (c := c) (r := r) (t := t) h2)
      clear hw h1 h2
      unfold Halt
      go_wp2
      exact ⟨rfl, t, rfl, H1.out.less (by omega), H2.out, Row2.refl _ _⟩
    | false =>
      have hw := again_ask h.pt hi hsp hs.len
      cases hk : s.keeps with
      | true =>
        rw [Pt.ask_keep hx hsp hk]
        have HS := Lib.hid h
        have HO := Lib.hid hs
        have HI := Lib.hid hi
        have HK := Lib.hid hk
        clear h hs hx hi hsp hk
        go_enter Tryd.func33, Tryd.ntmps33
        go_wp2_with fail
        refine hw.mono ?_
        rintro e w1 ⟨rfl, h2⟩
        have hS1 := HS.out.later h2
        have HB := Lib.hid h2
        have c0 := hS1.pt.cells.c0
        have hm := hS1.has.store (by omega) k n
        have H1 := Lib.hid hS1
        clear hw h2 hS1
        go_wp2_with fail
        refine hm.mono ?_
        rintro e w2 ⟨rfl, h3, h4⟩
        have hS2 := H1.out.mem h3 h4
        have hkp := keep_yes (a := (Qn.on (.store k n) m).2) hS2.pt HK.out HO.out.len (by have := HO.out.le; have := HO.out.len; omega) hS2.has.below.size
        have ea : (Qn.on (.store k n) m).2.v = .agg #[.nilIface, .int .i64 0, .bool false, .int .i64 (m.store k n).2] := rfl
        rw [ea] at hkp
        have H2 := Lib.hid hS2
        have H3 := Lib.hid h4
        clear hm h3 h4 hS2 c0 ea
        go_wp2_with fail
        refine hkp.mono ?_
        rintro e w3 ⟨rfl, t', h5, h6, h7⟩
        have HS3 := Lib.hid (H2.out.keep h5 h6 h7)
        have H5 := Lib.hid (((But5.of HB.out).trans (But5.of3 H3.out)).trans (But5.of2 h6 : But5 b c r pb t w2 w3))
        have H7 : Hid (Row2 w t t') := h7.from (Nat.le_trans HB.out.size H3.out.size)
        clear hkp h5 h6 h7
        go_wp2
        go_ret
        exact ⟨t', rfl, HS3.out, H5.out, H7.out⟩
      | false =>
        rw [Pt.ask_do hx hsp hk]
        have HS := Lib.hid h
        have HK := Lib.hid hk
        clear h hs hx hi hsp hk
        go_enter Tryd.func33, Tryd.ntmps33
        go_wp2_with fail
        refine hw.mono ?_
        rintro e w1 ⟨rfl, h2⟩
        have hS1 := HS.out.later h2
        have HB := Lib.hid h2
        have c0 := hS1.pt.cells.c0
        have hm := hS1.has.store (by omega) k n
        have H1 := Lib.hid hS1
        clear hw h2 hS1
        go_wp2_with fail
        refine hm.mono ?_
        rintro e w2 ⟨rfl, h3, h4⟩
        have hS2 := H1.out.mem h3 h4
        have hkp := keep_no (a := (Qn.on (.store k n) m).2) hS2.pt HK.out
        have ea : (Qn.on (.store k n) m).2.v = .agg #[.nilIface, .int .i64 0, .bool false, .int .i64 (m.store k n).2] := rfl
        rw [ea] at hkp
        have H2 := Lib.hid hS2
        have H3 := Lib.hid h4
        clear hm h3 h4 hS2 c0 ea
        go_wp2_with fail
        refine hkp.mono ?_
        rintro e w3 ⟨rfl, h6⟩
        have HS3 := Lib.hid (H2.out.later h6)
        have H5 := Lib.hid (((But5.of HB.out).trans (But5.of3 H3.out)).trans (But5.of h6 : But5 b c r pb t w2 w3))
        clear hkp h6
        go_wp2
        go_ret
        exact ⟨t, rfl, HS3.out, H5.out, Row2.refl _ _⟩
end
section
variable {w0 : World} {b c r pb po : Nat} {t : Value} {G : List (Nat × List Value)} {w : World} {m : M} {s : Pt}
theorem estore (h : SysE w0 b c r pb po t G w m s) (hc : m.count ≤ 900000) (k n : Int) :
    Calls Tryd.prog 33 #[.pointer (some ⟨pb, po, none⟩), .int .i64 k, .int .i64 n] w fun e w' => Ev w0 b c r pb po t G w (fun _ a v => v = .int .i64 a.err) (s.ask (.store k n) m) e w' := by
  obtain ⟨m0, s0, hS, hm, hs, hf, rfl, rfl⟩ := h
  have hc : m0.count ≤ 900000 := hc
  refine (pstore_any hS (by omega) (hf.pok hc) k n).mono fun e w' h => ?_
  exact (ev_ask (q := .store k n) hm hs hf trivial h).mono fun G' a v ⟨a0, e, _, hv⟩ => by rw [hv, ← e]; rfl
theorem store_call (h : SysE w0 b c r pb po t G w m s) (hq : Quiet s) (hc : m.count ≤ 900000) (k n : Int) :
    Calls Tryd.prog 33 #[.pointer (some ⟨pb, po, none⟩), .int .i64 k, .int .i64 n] w fun e w' => ∃ t2 G2, e = .returned (.int .i64 (m.store k n).2) ∧ Aft w0 b c r pb po t G w t2 G2 w' (m.store k n).1 s := by
  refine (estore h hc k n).mono ?_
  rintro e w' hE
  obtain ⟨t2, G2, v, rfl, hR, ha⟩ := hE.done1 hq
  exact ⟨t2, G2, by rw [hR]; rfl, ha⟩
end
end Go.Proofs.YtibimnibmengpaaDoor
