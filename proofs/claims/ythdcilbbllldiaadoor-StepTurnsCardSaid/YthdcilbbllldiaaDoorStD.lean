/- What a port's other asks answer and make of memory and of the port. Conditions: memory is the call's own; at most 1000000 asks. -/
import Derived.Test.YthdcilbbllldiaaDoorStC
namespace Go.Proofs.YthdcilbbllldiaaDoor
open Go.RowKit Go.Op
set_option maxRecDepth 100000

section
variable {w0 : World} {b c r : Nat} {N : Int} {pb po : Nat} {t : Value} {w : World} {m : M} {s : Pt}
theorem pstore_any (h : Sys w0 b c r N pb po t w m s) (hN : N ≤ 1000000) (hs : s.Ok) (k n : Int) :
    Calls Tryd.prog 49 #[.pointer (some ⟨pb, po, none⟩), .int .i64 k, .int .i64 n] w fun e w' => Asked w0 b c r N pb po t w m s (.store k n) e w' := by
  unfold Asked
  cases hx : s.told[s.place]? with
  | some a =>
    rw [Pt.ask_told hx]
    have hw := again_told h.pt (List.getElem?_eq_some_iff.1 hx).1 hs.len
    obtain ⟨g, cap, et, hg, -, hgl, d0, d1, d2, d3⟩ := h.pt.see hx
    have HS := Lib.hid h
    have HG := Lib.hid (⟨hg, hgl, d0, d1, d2, d3⟩ : g ≠ pb ∧ g < w.heap.size ∧ _ ∧ _ ∧ _ ∧ _)
    have HE := Lib.hid et
    clear h hN hs hx et hg hgl d0 d1 d2 d3
    go_enter Tryd.func49, Tryd.ntmps49
    go_wp2_with fail
    refine hw.mono ?_
    rintro e w1 ⟨⟨g1, cap1, et1, rfl⟩, h1, h2⟩
    obtain rfl : g = g1 := by cases HE.out.symm.trans et1; rfl
    have k1 : ∀ i, w1.cell? ⟨g, i, none⟩ = w.cell? ⟨g, i, none⟩ := fun i => World.cell?_of_block (w := w) (h2.block g HG.out.2.1 HG.out.1)
    have d1 := (k1 _).trans HG.out.2.2.2.1
    have d2 := (k1 _).trans HG.out.2.2.2.2.1
    have d3 := (k1 _).trans HG.out.2.2.2.2.2
    have H1 := Lib.hid (fun n => (HS.out.port h1 h2).later (below_drewN w1 n))
    have H2 := Lib.hid (fun n => (But5.of1 (b := b) (c := c) (r := r) (t := t) h2).trans (But5.of (below_drewN w1 n)))
    clear hw h1 h2 k1 et1
    go_wp2_with fail
    go_wp2
    go_ret
    exact ⟨t, rfl, (H1.out 0).less (by omega), (H2.out 0), Row2.refl _ _⟩
  | none =>
    have hi := hs.none hx
    cases hsp : s.spent with
    | true =>
      rw [Pt.ask_halt hx hsp]
      have hw := again_halt h.pt hi hsp hs.len
      have HS := Lib.hid h
      clear h hs hx hi hsp
      go_enter Tryd.func49, Tryd.ntmps49
      go_wp2_with fail
      refine hw.mono ?_
      rintro e w1 ⟨rfl, h1, h2⟩
      have H1 := Lib.hid (HS.out.port h1 h2)
      have H2 := Lib.hid (But5.of1 (b := b) (c := c) (r := r) (t := t) h2)
      clear hw h1 h2
      unfold Halt
      go_wp2
      exact ⟨rfl, t, rfl, H1.out.less (by omega), H2.out, Row2.refl _ _⟩
    | false =>
      have hw := again_ask h.pt hi hsp hs.len
      cases hk : s.keeps with
      | true =>
        rw [Pt.ask_keep hx hsp hk]
        have HS := Lib.hid h
        have HO := Lib.hid hs
        have HI := Lib.hid hi
        have HK := Lib.hid hk
        clear h hs hx hi hsp hk
        go_enter Tryd.func49, Tryd.ntmps49
        go_wp2_with fail
        refine hw.mono ?_
        rintro e w1 ⟨rfl, h2⟩
        have hS1 := HS.out.later h2
        have HB := Lib.hid h2
        have c0 := hS1.pt.cells.c0
        have hm := hS1.has.store (by omega) k n
        have H1 := Lib.hid hS1
        clear hw h2 hS1
        go_wp2_with fail
        refine hm.mono ?_
        rintro e w2 ⟨rfl, h3, h4⟩
        have hS2 := H1.out.mem h3 h4
        have hkp := keep_yes (a := (Qn.on (.store k n) m).2) hS2.pt HK.out HO.out.len (by have := HO.out.le; have := HO.out.len; omega) hS2.has.below.size
        have ea : (Qn.on (.store k n) m).2.v = .agg #[.nilIface, .int .i64 0, .bool false, .int .i64 (m.store k n).2] := rfl
        rw [ea] at hkp
        have H2 := Lib.hid hS2
        have H3 := Lib.hid h4
        clear hm h3 h4 hS2 c0 ea
        go_wp2_with fail
        refine hkp.mono ?_
        rintro e w3 ⟨rfl, t', h5, h6, h7⟩
        have HS3 := Lib.hid (H2.out.keep h5 h6 h7)
        have H5 := Lib.hid (((But5.of HB.out).trans (But5.of3 H3.out)).trans (But5.of2 h6 : But5 b c r pb t w2 w3))
        have H7 : Hid (Row2 w t t') := h7.from (Nat.le_trans HB.out.size H3.out.size)
        clear hkp h5 h6 h7
        go_wp2
        go_ret
        exact ⟨t', rfl, HS3.out, H5.out, H7.out⟩
      | false =>
        rw [Pt.ask_do hx hsp hk]
        have HS := Lib.hid h
        have HK := Lib.hid hk
        clear h hs hx hi hsp hk
        go_enter Tryd.func49, Tryd.ntmps49
        go_wp2_with fail
        refine hw.mono ?_
        rintro e w1 ⟨rfl, h2⟩
        have hS1 := HS.out.later h2
        have HB := Lib.hid h2
        have c0 := hS1.pt.cells.c0
        have hm := hS1.has.store (by omega) k n
        have H1 := Lib.hid hS1
        clear hw h2 hS1
        go_wp2_with fail
        refine hm.mono ?_
        rintro e w2 ⟨rfl, h3, h4⟩
        have hS2 := H1.out.mem h3 h4
        have hkp := keep_no (a := (Qn.on (.store k n) m).2) hS2.pt HK.out
        have ea : (Qn.on (.store k n) m).2.v = .agg #[.nilIface, .int .i64 0, .bool false, .int .i64 (m.store k n).2] := rfl
        rw [ea] at hkp
        have H2 := Lib.hid hS2
        have H3 := Lib.hid h4
        clear hm h3 h4 hS2 c0 ea
        go_wp2_with fail
        refine hkp.mono ?_
        rintro e w3 ⟨rfl, h6⟩
        have HS3 := Lib.hid (H2.out.later h6)
        have H5 := Lib.hid (((But5.of HB.out).trans (But5.of3 H3.out)).trans (But5.of h6 : But5 b c r pb t w2 w3))
        clear hkp h6
        go_wp2
        go_ret
        exact ⟨t, rfl, HS3.out, H5.out, Row2.refl _ _⟩
theorem pfree_any (h : Sys w0 b c r N pb po t w m s) (hN : N ≤ 1000000) (hs : s.Ok) (k : Int) :
    Calls Tryd.prog 51 #[.pointer (some ⟨pb, po, none⟩), .int .i64 k] w fun e w' => Asked w0 b c r N pb po t w m s (.free k) e w' := by
  unfold Asked
  cases hx : s.told[s.place]? with
  | some a =>
    rw [Pt.ask_told hx]
    have hw := again_told h.pt (List.getElem?_eq_some_iff.1 hx).1 hs.len
    obtain ⟨g, cap, et, hg, -, hgl, d0, d1, d2, d3⟩ := h.pt.see hx
    have HS := Lib.hid h
    have HG := Lib.hid (⟨hg, hgl, d0, d1, d2, d3⟩ : g ≠ pb ∧ g < w.heap.size ∧ _ ∧ _ ∧ _ ∧ _)
    have HE := Lib.hid et
    clear h hN hs hx et hg hgl d0 d1 d2 d3
    go_enter Tryd.func51, Tryd.ntmps51
    go_wp2_with fail
    refine hw.mono ?_
    rintro e w1 ⟨⟨g1, cap1, et1, rfl⟩, h1, h2⟩
    obtain rfl : g = g1 := by cases HE.out.symm.trans et1; rfl
    have k1 : ∀ i, w1.cell? ⟨g, i, none⟩ = w.cell? ⟨g, i, none⟩ := fun i => World.cell?_of_block (w := w) (h2.block g HG.out.2.1 HG.out.1)
    have d1 := (k1 _).trans HG.out.2.2.2.1
    have d2 := (k1 _).trans HG.out.2.2.2.2.1
    have d3 := (k1 _).trans HG.out.2.2.2.2.2
    have H1 := Lib.hid (fun n => (HS.out.port h1 h2).later (below_drewN w1 n))
    have H2 := Lib.hid (fun n => (But5.of1 (b := b) (c := c) (r := r) (t := t) h2).trans (But5.of (below_drewN w1 n)))
    clear hw h1 h2 k1 et1
    go_wp2_with fail
    go_wp2
    go_ret
    exact ⟨t, rfl, (H1.out 0).less (by omega), (H2.out 0), Row2.refl _ _⟩
  | none =>
    have hi := hs.none hx
    cases hsp : s.spent with
    | true =>
      rw [Pt.ask_halt hx hsp]
      have hw := again_halt h.pt hi hsp hs.len
      have HS := Lib.hid h
      clear h hs hx hi hsp
      go_enter Tryd.func51, Tryd.ntmps51
      go_wp2_with fail
      refine hw.mono ?_
      rintro e w1 ⟨rfl, h1, h2⟩
      have H1 := Lib.hid (HS.out.port h1 h2)
      have H2 := Lib.hid (But5.of1 (b := b) (c := c) (r := r) (t := t) h2)
      clear hw h1 h2
      unfold Halt
      go_wp2
      exact ⟨rfl, t, rfl, H1.out.less (by omega), H2.out, Row2.refl _ _⟩
    | false =>
      have hw := again_ask h.pt hi hsp hs.len
      cases hk : s.keeps with
      | true =>
        rw [Pt.ask_keep hx hsp hk]
        have HS := Lib.hid h
        have HO := Lib.hid hs
        have HI := Lib.hid hi
        have HK := Lib.hid hk
        clear h hs hx hi hsp hk
        go_enter Tryd.func51, Tryd.ntmps51
        go_wp2_with fail
        refine hw.mono ?_
        rintro e w1 ⟨rfl, h2⟩
        have hS1 := HS.out.later h2
        have HB := Lib.hid h2
        have c0 := hS1.pt.cells.c0
        have hm := hS1.has.free (by omega) k
        have H1 := Lib.hid hS1
        clear hw h2 hS1
        go_wp2_with fail
        refine hm.mono ?_
        rintro e w2 ⟨rfl, h3, h4⟩
        have hS2 := H1.out.mem h3 h4
        have hkp := keep_yes (a := (Qn.on (.free k) m).2) hS2.pt HK.out HO.out.len (by have := HO.out.le; have := HO.out.len; omega) hS2.has.below.size
        have ea : (Qn.on (.free k) m).2.v = .agg #[.nilIface, .int .i64 0, .bool false, .int .i64 (m.free k).2] := rfl
        rw [ea] at hkp
        have H2 := Lib.hid hS2
        have H3 := Lib.hid h4
        clear hm h3 h4 hS2 c0 ea
        go_wp2_with fail
        refine hkp.mono ?_
        rintro e w3 ⟨rfl, t', h5, h6, h7⟩
        have HS3 := Lib.hid (H2.out.keep h5 h6 h7)
        have H5 := Lib.hid (((But5.of HB.out).trans (But5.of3 H3.out)).trans (But5.of2 h6 : But5 b c r pb t w2 w3))
        have H7 : Hid (Row2 w t t') := h7.from (Nat.le_trans HB.out.size H3.out.size)
        clear hkp h5 h6 h7
        go_wp2
        go_ret
        exact ⟨t', rfl, HS3.out, H5.out, H7.out⟩
      | false =>
        rw [Pt.ask_do hx hsp hk]
        have HS := Lib.hid h
        have HK := Lib.hid hk
        clear h hs hx hi hsp hk
        go_enter Tryd.func51, Tryd.ntmps51
        go_wp2_with fail
        refine hw.mono ?_
        rintro e w1 ⟨rfl, h2⟩
        have hS1 := HS.out.later h2
        have HB := Lib.hid h2
        have c0 := hS1.pt.cells.c0
        have hm := hS1.has.free (by omega) k
        have H1 := Lib.hid hS1
        clear hw h2 hS1
        go_wp2_with fail
        refine hm.mono ?_
        rintro e w2 ⟨rfl, h3, h4⟩
        have hS2 := H1.out.mem h3 h4
        have hkp := keep_no (a := (Qn.on (.free k) m).2) hS2.pt HK.out
        have ea : (Qn.on (.free k) m).2.v = .agg #[.nilIface, .int .i64 0, .bool false, .int .i64 (m.free k).2] := rfl
        rw [ea] at hkp
        have H2 := Lib.hid hS2
        have H3 := Lib.hid h4
        clear hm h3 h4 hS2 c0 ea
        go_wp2_with fail
        refine hkp.mono ?_
        rintro e w3 ⟨rfl, h6⟩
        have HS3 := Lib.hid (H2.out.later h6)
        have H5 := Lib.hid (((But5.of HB.out).trans (But5.of3 H3.out)).trans (But5.of h6 : But5 b c r pb t w2 w3))
        clear hkp h6
        go_wp2
        go_ret
        exact ⟨t, rfl, HS3.out, H5.out, Row2.refl _ _⟩
theorem pretire_any (h : Sys w0 b c r N pb po t w m s) (hN : N ≤ 1000000) (hs : s.Ok) (k n : Int) :
    Calls Tryd.prog 52 #[.pointer (some ⟨pb, po, none⟩), .int .i64 k, .int .i64 n] w fun e w' => Asked w0 b c r N pb po t w m s (.retire k n) e w' := by
  unfold Asked
  cases hx : s.told[s.place]? with
  | some a =>
    rw [Pt.ask_told hx]
    have hw := again_told h.pt (List.getElem?_eq_some_iff.1 hx).1 hs.len
    obtain ⟨g, cap, et, hg, -, hgl, d0, d1, d2, d3⟩ := h.pt.see hx
    have HS := Lib.hid h
    have HG := Lib.hid (⟨hg, hgl, d0, d1, d2, d3⟩ : g ≠ pb ∧ g < w.heap.size ∧ _ ∧ _ ∧ _ ∧ _)
    have HE := Lib.hid et
    clear h hN hs hx et hg hgl d0 d1 d2 d3
    go_enter Tryd.func52, Tryd.ntmps52
    go_wp2_with fail
    refine hw.mono ?_
    rintro e w1 ⟨⟨g1, cap1, et1, rfl⟩, h1, h2⟩
    obtain rfl : g = g1 := by cases HE.out.symm.trans et1; rfl
    have k1 : ∀ i, w1.cell? ⟨g, i, none⟩ = w.cell? ⟨g, i, none⟩ := fun i => World.cell?_of_block (w := w) (h2.block g HG.out.2.1 HG.out.1)
    have d1 := (k1 _).trans HG.out.2.2.2.1
    have d2 := (k1 _).trans HG.out.2.2.2.2.1
    have d3 := (k1 _).trans HG.out.2.2.2.2.2
    have H1 := Lib.hid (fun n => (HS.out.port h1 h2).later (below_drewN w1 n))
    have H2 := Lib.hid (fun n => (But5.of1 (b := b) (c := c) (r := r) (t := t) h2).trans (But5.of (below_drewN w1 n)))
    clear hw h1 h2 k1 et1
    go_wp2_with fail
    go_wp2
    go_ret
    exact ⟨t, rfl, (H1.out 0).less (by omega), (H2.out 0), Row2.refl _ _⟩
  | none =>
    have hi := hs.none hx
    cases hsp : s.spent with
    | true =>
      rw [Pt.ask_halt hx hsp]
      have hw := again_halt h.pt hi hsp hs.len
      have HS := Lib.hid h
      clear h hs hx hi hsp
      go_enter Tryd.func52, Tryd.ntmps52
      go_wp2_with fail
      refine hw.mono ?_
      rintro e w1 ⟨rfl, h1, h2⟩
      have H1 := Lib.hid (HS.out.port h1 h2)
      have H2 := Lib.hid (But5.of1 (b := b) (c := c) (r := r) (t := t) h2)
      clear hw h1 h2
      unfold Halt
      go_wp2
      exact ⟨rfl, t, rfl, H1.out.less (by omega), H2.out, Row2.refl _ _⟩
    | false =>
      have hw := again_ask h.pt hi hsp hs.len
      cases hk : s.keeps with
      | true =>
        rw [Pt.ask_keep hx hsp hk]
        have HS := Lib.hid h
        have HO := Lib.hid hs
        have HI := Lib.hid hi
        have HK := Lib.hid hk
        clear h hs hx hi hsp hk
        go_enter Tryd.func52, Tryd.ntmps52
        go_wp2_with fail
        refine hw.mono ?_
        rintro e w1 ⟨rfl, h2⟩
        have hS1 := HS.out.later h2
        have HB := Lib.hid h2
        have c0 := hS1.pt.cells.c0
        have hm := hS1.has.retire (by omega) k n
        have H1 := Lib.hid hS1
        clear hw h2 hS1
        go_wp2_with fail
        refine hm.mono ?_
        rintro e w2 ⟨rfl, h3, h4⟩
        have hS2 := H1.out.mem h3 h4
        have hkp := keep_yes (a := (Qn.on (.retire k n) m).2) hS2.pt HK.out HO.out.len (by have := HO.out.le; have := HO.out.len; omega) hS2.has.below.size
        have ea : (Qn.on (.retire k n) m).2.v = .agg #[.nilIface, .int .i64 0, .bool false, .int .i64 (m.retire k n).2] := rfl
        rw [ea] at hkp
        have H2 := Lib.hid hS2
        have H3 := Lib.hid h4
        clear hm h3 h4 hS2 c0 ea
        go_wp2_with fail
        refine hkp.mono ?_
        rintro e w3 ⟨rfl, t', h5, h6, h7⟩
        have HS3 := Lib.hid (H2.out.keep h5 h6 h7)
        have H5 := Lib.hid (((But5.of HB.out).trans (But5.of3 H3.out)).trans (But5.of2 h6 : But5 b c r pb t w2 w3))
        have H7 : Hid (Row2 w t t') := h7.from (Nat.le_trans HB.out.size H3.out.size)
        clear hkp h5 h6 h7
        go_wp2
        go_ret
        exact ⟨t', rfl, HS3.out, H5.out, H7.out⟩
      | false =>
        rw [Pt.ask_do hx hsp hk]
        have HS := Lib.hid h
        have HK := Lib.hid hk
        clear h hs hx hi hsp hk
        go_enter Tryd.func52, Tryd.ntmps52
        go_wp2_with fail
        refine hw.mono ?_
        rintro e w1 ⟨rfl, h2⟩
        have hS1 := HS.out.later h2
        have HB := Lib.hid h2
        have c0 := hS1.pt.cells.c0
        have hm := hS1.has.retire (by omega) k n
        have H1 := Lib.hid hS1
        clear hw h2 hS1
        go_wp2_with fail
        refine hm.mono ?_
        rintro e w2 ⟨rfl, h3, h4⟩
        have hS2 := H1.out.mem h3 h4
        have hkp := keep_no (a := (Qn.on (.retire k n) m).2) hS2.pt HK.out
        have ea : (Qn.on (.retire k n) m).2.v = .agg #[.nilIface, .int .i64 0, .bool false, .int .i64 (m.retire k n).2] := rfl
        rw [ea] at hkp
        have H2 := Lib.hid hS2
        have H3 := Lib.hid h4
        clear hm h3 h4 hS2 c0 ea
        go_wp2_with fail
        refine hkp.mono ?_
        rintro e w3 ⟨rfl, h6⟩
        have HS3 := Lib.hid (H2.out.later h6)
        have H5 := Lib.hid (((But5.of HB.out).trans (But5.of3 H3.out)).trans (But5.of h6 : But5 b c r pb t w2 w3))
        clear hkp h6
        go_wp2
        go_ret
        exact ⟨t, rfl, HS3.out, H5.out, Row2.refl _ _⟩
theorem preap_any (h : Sys w0 b c r N pb po t w m s) (hN : N ≤ 1000000) (hs : s.Ok) (k n : Int) :
    Calls Tryd.prog 53 #[.pointer (some ⟨pb, po, none⟩), .int .i64 k, .int .i64 n] w fun e w' => Asked w0 b c r N pb po t w m s (.reap k n) e w' := by
  unfold Asked
  cases hx : s.told[s.place]? with
  | some a =>
    rw [Pt.ask_told hx]
    have hw := again_told h.pt (List.getElem?_eq_some_iff.1 hx).1 hs.len
    obtain ⟨g, cap, et, hg, -, hgl, d0, d1, d2, d3⟩ := h.pt.see hx
    have HS := Lib.hid h
    have HG := Lib.hid (⟨hg, hgl, d0, d1, d2, d3⟩ : g ≠ pb ∧ g < w.heap.size ∧ _ ∧ _ ∧ _ ∧ _)
    have HE := Lib.hid et
    clear h hN hs hx et hg hgl d0 d1 d2 d3
    go_enter Tryd.func53, Tryd.ntmps53
    go_wp2_with fail
    refine hw.mono ?_
    rintro e w1 ⟨⟨g1, cap1, et1, rfl⟩, h1, h2⟩
    obtain rfl : g = g1 := by cases HE.out.symm.trans et1; rfl
    have k1 : ∀ i, w1.cell? ⟨g, i, none⟩ = w.cell? ⟨g, i, none⟩ := fun i => World.cell?_of_block (w := w) (h2.block g HG.out.2.1 HG.out.1)
    have d1 := (k1 _).trans HG.out.2.2.2.1
    have d2 := (k1 _).trans HG.out.2.2.2.2.1
    have d3 := (k1 _).trans HG.out.2.2.2.2.2
    have H1 := Lib.hid (fun n => (HS.out.port h1 h2).later (below_drewN w1 n))
    have H2 := Lib.hid (fun n => (But5.of1 (b := b) (c := c) (r := r) (t := t) h2).trans (But5.of (below_drewN w1 n)))
    clear hw h1 h2 k1 et1
    go_wp2_with fail
    go_quiet (fail)
    go_wp2
    go_ret2
    exact ⟨t, rfl, (H1.out _).less (by omega), (H2.out _), Row2.refl _ _⟩
  | none =>
    have hi := hs.none hx
    cases hsp : s.spent with
    | true =>
      rw [Pt.ask_halt hx hsp]
      have hw := again_halt h.pt hi hsp hs.len
      have HS := Lib.hid h
      clear h hs hx hi hsp
      go_enter Tryd.func53, Tryd.ntmps53
      go_wp2_with fail
      refine hw.mono ?_
      rintro e w1 ⟨rfl, h1, h2⟩
      have H1 := Lib.hid (HS.out.port h1 h2)
      have H2 := Lib.hid (But5.of1 (b := b) (c := c) (r := r) (t := t) h2)
      clear hw h1 h2
      unfold Halt
      go_wp2
      exact ⟨rfl, t, rfl, H1.out.less (by omega), H2.out, Row2.refl _ _⟩
    | false =>
      have hw := again_ask h.pt hi hsp hs.len
      cases hk : s.keeps with
      | true =>
        rw [Pt.ask_keep hx hsp hk]
        have HS := Lib.hid h
        have HO := Lib.hid hs
        have HI := Lib.hid hi
        have HK := Lib.hid hk
        clear h hs hx hi hsp hk
        go_enter Tryd.func53, Tryd.ntmps53
        go_wp2_with fail
        refine hw.mono ?_
        rintro e w1 ⟨rfl, h2⟩
        have hS1 := HS.out.later h2
        have HB := Lib.hid h2
        have c0 := hS1.pt.cells.c0
        have hm := hS1.has.reap (by omega) k n
        have H1 := Lib.hid hS1
        clear hw h2 hS1
        go_wp2_with fail
        refine hm.mono ?_
        rintro e w2 ⟨rfl, h3, h4⟩
        have hS2 := H1.out.mem h3 h4
        have hkp := keep_yes (a := (Qn.on (.reap k n) m).2) hS2.pt HK.out HO.out.len (by have := HO.out.le; have := HO.out.len; omega) hS2.has.below.size
        have ea : (Qn.on (.reap k n) m).2.v = .agg #[.nilIface, .int .i64 0, .bool (m.reap k n).2.1, .int .i64 (m.reap k n).2.2] := rfl
        rw [ea] at hkp
        have H2 := Lib.hid hS2
        have H3 := Lib.hid h4
        clear hm h3 h4 hS2 c0 ea
        go_wp2_with fail
        refine hkp.mono ?_
        rintro e w3 ⟨rfl, t', h5, h6, h7⟩
        have HS3 := Lib.hid (H2.out.keep h5 h6 h7)
        have H5 := Lib.hid (((But5.of HB.out).trans (But5.of3 H3.out)).trans (But5.of2 h6 : But5 b c r pb t w2 w3))
        have H7 : Hid (Row2 w t t') := h7.from (Nat.le_trans HB.out.size H3.out.size)
        clear hkp h5 h6 h7
        go_wp2
        go_ret2
        exact ⟨t', rfl, HS3.out, H5.out, H7.out⟩
      | false =>
        rw [Pt.ask_do hx hsp hk]
        have HS := Lib.hid h
        have HK := Lib.hid hk
        clear h hs hx hi hsp hk
        go_enter Tryd.func53, Tryd.ntmps53
        go_wp2_with fail
        refine hw.mono ?_
        rintro e w1 ⟨rfl, h2⟩
        have hS1 := HS.out.later h2
        have HB := Lib.hid h2
        have c0 := hS1.pt.cells.c0
        have hm := hS1.has.reap (by omega) k n
        have H1 := Lib.hid hS1
        clear hw h2 hS1
        go_wp2_with fail
        refine hm.mono ?_
        rintro e w2 ⟨rfl, h3, h4⟩
        have hS2 := H1.out.mem h3 h4
        have hkp := keep_no (a := (Qn.on (.reap k n) m).2) hS2.pt HK.out
        have ea : (Qn.on (.reap k n) m).2.v = .agg #[.nilIface, .int .i64 0, .bool (m.reap k n).2.1, .int .i64 (m.reap k n).2.2] := rfl
        rw [ea] at hkp
        have H2 := Lib.hid hS2
        have H3 := Lib.hid h4
        clear hm h3 h4 hS2 c0 ea
        go_wp2_with fail
        refine hkp.mono ?_
        rintro e w3 ⟨rfl, h6⟩
        have HS3 := Lib.hid (H2.out.later h6)
        have H5 := Lib.hid (((But5.of HB.out).trans (But5.of3 H3.out)).trans (But5.of h6 : But5 b c r pb t w2 w3))
        clear hkp h6
        go_wp2
        go_ret2
        exact ⟨t, rfl, HS3.out, H5.out, Row2.refl _ _⟩
end
end Go.Proofs.YthdcilbbllldiaaDoor
