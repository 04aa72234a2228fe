/- What a port's other asks answer and make of memory and of the port. Conditions: memory is the call's own; at most 1000000 asks. -/
import Derived.Test.YteiikkkcjpfapaaDoorStD
namespace Go.Proofs.YteiikkkcjpfapaaDoor
open Go.RowKit Go.Op
set_option maxRecDepth 100000

theorem held_shape (x : Held) : x.v = .nilIface ∨ ∃ ty z, x.v = .iface ty z := by
  cases x
  · exact .inl rfl
  all_goals exact .inr ⟨_, _, rfl⟩
section
variable {w0 : World} {b c r : Nat} {N : Int} {G : List (Nat × List Sw)} {pb po : Nat} {t : Value} {w : World} {m : M} {s : Pt}
theorem pload_any (h : Sys w0 b c r N G pb po t w m s) (hN : N ≤ 1000000) (hs : s.Ok) (k : Int) :
    Calls Tryd.prog 76 #[.pointer (some ⟨pb, po, none⟩), .int .i64 k] w fun e w' => Asked w0 b c r N G pb po t w m s (.load k) e w' := by
  unfold Asked
  cases hx : s.told[s.place]? with
  | some a =>
    rw [Pt.ask_told hx]
    have hw := again_told h.pt (List.getElem?_eq_some_iff.1 hx).1 hs.len
    obtain ⟨g, cap, et, hg, -, hgl, d0, d1, d2, d3⟩ := h.pt.see hx
    have HS := Lib.hid h
    have HG := Lib.hid (⟨hg, hgl, d0, d1, d2, d3⟩ : g ≠ pb ∧ g < w.heap.size ∧ _ ∧ _ ∧ _ ∧ _)
    have HE := Lib.hid et
    clear h hN hs hx et hg hgl d0 d1 d2 d3
    go_enter Tryd.func76, Tryd.ntmps76
    go_wp2_with fail
    refine hw.mono ?_
    rintro e w1 ⟨⟨g1, cap1, et1, rfl⟩, h1, h2⟩
    obtain rfl : g = g1 := by cases HE.out.symm.trans et1; rfl
    have k1 : ∀ i, w1.cell? ⟨g, i, none⟩ = w.cell? ⟨g, i, none⟩ := fun i => World.cell?_of_block (w := w) (h2.block g HG.out.2.1 HG.out.1)
    have d0 := (k1 _).trans HG.out.2.2.1
    have d1 := (k1 _).trans HG.out.2.2.2.1
    have d2 := (k1 _).trans HG.out.2.2.2.2.1
    have d3 := (k1 _).trans HG.out.2.2.2.2.2
    have H1 := Lib.hid (fun n => (HS.out.port h1 h2).later (below_drewN w1 n))
    have H2 := Lib.hid (fun n => (But5.of1 (b := b) (c := c) (r := r) (t := t) h2).trans (But5.of (below_drewN w1 n)))
    have l0 : ∀ n, (Instr.loadAt 20 (.pointer (some ⟨g, s.place * 4, none⟩))).run Tryd.prog (w1.drewN n) = .ok a.held.v (w1.drewN n) := fun n => load_20 d0
    clear hw h1 h2 k1 et1
    go_wp2_with fail
    go_quiet (fail)
    go_wp2
    go_ret2
    exact ⟨t, rfl, (H1.out _).less (by omega), (H2.out _), Row2.refl _ _⟩
  | none =>
    have hi := hs.none hx
    cases hsp : s.spent with
    | true =>
      rw [Pt.ask_halt hx hsp]
      have hw := again_halt h.pt hi hsp hs.len
      have HS := Lib.hid h
      clear h hs hx hi hsp
      go_enter Tryd.func76, Tryd.ntmps76
      go_wp2_with fail
      refine hw.mono ?_
      rintro e w1 ⟨rfl, h1, h2⟩
      have H1 := Lib.hid (HS.out.port h1 h2)
      have H2 := Lib.hid (But5.of1 (b := b) (c := c) (r := r) (t := t) h2)
      clear hw h1 h2
      unfold Halt
      go_wp2
      exact ⟨rfl, t, rfl, H1.out.less (by omega), H2.out, Row2.refl _ _⟩
    | false =>
      have hw := again_ask h.pt hi hsp hs.len
      cases hk : s.keeps with
      | true =>
        rw [Pt.ask_keep hx hsp hk]
        have HS := Lib.hid h
        have HO := Lib.hid hs
        have HI := Lib.hid hi
        have HK := Lib.hid hk
        clear h hs hx hi hsp hk
        go_enter Tryd.func76, Tryd.ntmps76
        go_wp2_with fail
        refine hw.mono ?_
        rintro e w1 ⟨rfl, h2⟩
        have hS1 := HS.out.later h2
        have HB := Lib.hid h2
        have c0 := hS1.pt.cells.c0
        have hm := hS1.has.load (by omega) k
        obtain ⟨V, eV, hV⟩ : ∃ V, V = (m.load k).2.1.v ∧ (V = .nilIface ∨ ∃ ty x, V = .iface ty x) := ⟨_, rfl, held_shape _⟩
        rw [← eV] at hm
        have HV := Lib.hid eV
        clear eV
        have H1 := Lib.hid hS1
        clear hw h2 hS1
        go_wp2_with fail
        refine hm.mono ?_
        rintro e w2 ⟨rfl, h3, h4⟩
        have hS2 := H1.out.mem h3 h4
        have hkp := keep_yes (a := (Qn.on (.load k) m).2) hS2.pt HK.out HO.out.len (by have := HO.out.le; have := HO.out.len; omega) hS2.has.below.size
        have ea : (Qn.on (.load k) m).2.v = .agg #[(m.load k).2.1.v, .int .i64 0, .bool false, .int .i64 (m.load k).2.2] := rfl
        rw [ea] at hkp
        rw [← HV.out] at hkp
        have H2 := Lib.hid hS2
        have H3 := Lib.hid h4
        clear hm h3 h4 hS2 c0 ea
        rcases hV with rfl | ⟨ty, x, rfl⟩
        all_goals
          go_wp2_with fail
          refine hkp.mono ?_
          rintro e w3 ⟨rfl, t', h5, h6, h7⟩
          have HS3 := Lib.hid (H2.out.keep h5 h6 h7)
          have H5 := Lib.hid (((But5.of HB.out).trans (But5.of3 H3.out)).trans (But5.of2 h6 : But5 b c r pb t w2 w3))
          have H7 : Hid (Row2 w t t') := h7.from (Nat.le_trans HB.out.size H3.out.size)
          clear hkp h5 h6 h7
          go_wp2
          go_ret2
          exact ⟨t', by show _ = Ending.returned (.tuple #[(m.load k).2.1.v, _]); rw [← HV.out]; rfl, HS3.out, H5.out, H7.out⟩
      | false =>
        rw [Pt.ask_do hx hsp hk]
        have HS := Lib.hid h
        have HK := Lib.hid hk
        clear h hs hx hi hsp hk
        go_enter Tryd.func76, Tryd.ntmps76
        go_wp2_with fail
        refine hw.mono ?_
        rintro e w1 ⟨rfl, h2⟩
        have hS1 := HS.out.later h2
        have HB := Lib.hid h2
        have c0 := hS1.pt.cells.c0
        have hm := hS1.has.load (by omega) k
        obtain ⟨V, eV, hV⟩ : ∃ V, V = (m.load k).2.1.v ∧ (V = .nilIface ∨ ∃ ty x, V = .iface ty x) := ⟨_, rfl, held_shape _⟩
        rw [← eV] at hm
        have HV := Lib.hid eV
        clear eV
        have H1 := Lib.hid hS1
        clear hw h2 hS1
        go_wp2_with fail
        refine hm.mono ?_
        rintro e w2 ⟨rfl, h3, h4⟩
        have hS2 := H1.out.mem h3 h4
        have hkp := keep_no (a := (Qn.on (.load k) m).2) hS2.pt HK.out
        have ea : (Qn.on (.load k) m).2.v = .agg #[(m.load k).2.1.v, .int .i64 0, .bool false, .int .i64 (m.load k).2.2] := rfl
        rw [ea] at hkp
        rw [← HV.out] at hkp
        have H2 := Lib.hid hS2
        have H3 := Lib.hid h4
        clear hm h3 h4 hS2 c0 ea
        rcases hV with rfl | ⟨ty, x, rfl⟩
        all_goals
          go_wp2_with fail
          refine hkp.mono ?_
          rintro e w3 ⟨rfl, h6⟩
          have HS3 := Lib.hid (H2.out.later h6)
          have H5 := Lib.hid (((But5.of HB.out).trans (But5.of3 H3.out)).trans (But5.of h6 : But5 b c r pb t w2 w3))
          clear hkp h6
          go_wp2
          go_ret2
          exact ⟨t, by show _ = Ending.returned (.tuple #[(m.load k).2.1.v, _]); rw [← HV.out]; rfl, HS3.out, H5.out, Row2.refl _ _⟩
end
end Go.Proofs.YteiikkkcjpfapaaDoor
