/- The document's example: awake answers true. Condition: the library's table stands. -/
import Derived.Test.YtibimnibmengpaaDoorTv
namespace Go.Proofs.YtibimnibmengpaaDoor
open Go.RowKit Go.Op
set_option maxRecDepth 100000

theorem lowsFC : lowsOf [⟨#[102]⟩, ⟨#[99]⟩] = [⟨#[]⟩, ⟨#[99]⟩, ⟨#[102]⟩] := by
  have h : ssOf [⟨#[102]⟩, ⟨#[99]⟩] = [⟨#[99]⟩, ⟨#[102]⟩] := by
    simp [ssOf, List.mergeSort, List.MergeSort.Internal.splitInTwo, List.merge]
    decide
  rw [lowsOf, h]
  decide
theorem tab_later {w w1 : World} (h : TabAt w) (hb : Below w.heap.size w w1) : TabAt w1 := fun j hj => by
  have hc := h j hj
  rw [hb.cell (p := ⟨0, j, none⟩) (World.block_lt_of_cell? w ⟨0, j, none⟩ hc)]
  exact hc
/-- What lay leaves, in a variable. -/
theorem LaidY.yw {w0 w W : World} {ks : List ByteArray} {us : List Nat} {b c r : Nat} {G : List (Nat × List Value)} {m : M} {y : Yr} {l : List Nod} {zy : Nat} (h : LaidY w0 (lowsOf ks) (htsOf us (lowsOf ks).length) w b c r G m y l) (hks : ks.length ≤ 40) (hb : Below w.heap.size w W) (hz : LocM w0 b c r G W zy) (hv : SVar W zy y.row) :
    ∃ gl ol cl gt ot ct gh oh ch, y = ⟨b, ⟨some ⟨gl, ol, none⟩, (lowsOf ks).length, cl⟩, ⟨some ⟨gt, ot, none⟩, (lowsOf ks).length, ct⟩, ⟨some ⟨gh, oh, none⟩, (lowsOf ks).length, ch⟩⟩ ∧ Yw w0 b c r G m gl ol cl gt ot ct gh oh ch (lowsOf ks).length l (lowsOf ks) (htsOf us (lowsOf ks).length) zy W := by
  obtain ⟨up, k0, k1⟩ := lowsOf_up ks
  obtain ⟨hi1, hi2, hi3⟩ := htsOf_in us (lowsOf ks).length
  have hmost : ∀ x y, x ∈ htsOf us (lowsOf ks).length → (htsOf us (lowsOf ks).length)[0]? = some y → x ≤ y := fun x y hx hy => by
    have := hi3 x hx
    have h1 := (List.getElem?_eq_some_iff.1 k0).1
    have h2 : (htsOf us (lowsOf ks).length)[0]? = some (mostOf (htsUp us (lowsOf ks).length)) := by
      rw [htsOf, List.getElem?_set_self (by simp [htsUp]; omega)]
    rw [h2] at hy
    cases hy
    exact this
  generalize htsOf us (lowsOf ks).length = hts at *
  generalize lowsOf ks = lows at *
  have hk : lows[0]? = some ⟨#[]⟩ ∧ hts.length = lows.length ∧ lows.length ≤ 41 := ⟨k0, hi2, by omega⟩
  have hlen := h.suf.len
  have h0 := (List.getElem?_eq_some_iff.1 hk.1).1
  obtain ⟨yb, ⟨la, ln, lc⟩, ⟨ta, tn, tc⟩, ⟨ha, hn, hc⟩⟩ := y
  have e1 : yb = b := h.yb
  have e2 : ln = lows.length := by have := h.la.n; rwa [strs, List.length_map] at this
  have e3 : tn = lows.length := by have := h.ta.n; rw [ints_length, hk.2.1] at this; exact this
  have e4 : hn = lows.length := by
    have h9 : hn = (ints (l.map Nod.h)).length := h.ha.n
    rw [ints_length, List.length_map] at h9
    omega
  subst e1 e2 e3 e4
  obtain ⟨gl, ol, ra, q1, -, q2⟩ := h.la.row.resolve_left fun e => by have := congrArg List.length e; rw [strs, List.length_map, List.length_nil] at this; omega
  obtain ⟨gt, ot, rt, q3, -, q4⟩ := h.ta.row.resolve_left fun e => by have := congrArg List.length e; rw [ints_length, List.length_nil] at this; omega
  obtain ⟨gh, oh, rh, q5, -, q6⟩ := h.ha.row.resolve_left fun e => by have := congrArg List.length e; rw [ints_length, List.length_map, List.length_nil] at this; omega
  simp only at q1 q3 q5
  subst q1 q3 q5
  exact ⟨gl, ol, lc, gt, ot, tc, gh, oh, hc, rfl, ⟨h.has.later hb, ⟨h.suf, up, hk.1, hk.2.1, hi1, hmost, hk.2.2⟩, rfl, h.la, h.ta, h.ha, hv, hz.ne⟩⟩
section
variable {w0 w : World} {b c r : Nat} {G : List (Nat × List Value)} {m : M} {gl ol cl gt ot ct gh oh ch : Nat} {l : List Nod} {hts : List Int} {zy : Nat}
set_option maxHeartbeats 4000000 in
theorem awake1_any (h : Yw w0 b c r G m gl ol cl gt ot ct gh oh ch 3 l [⟨#[]⟩, ⟨#[99]⟩, ⟨#[102]⟩] hts zy w) :
    Calls Tryd.prog 37 (#[.pointer (some ⟨w.heap.size, 0, none⟩)] ++ #[.pointer (some ⟨zy, 0, none⟩)]) (w.alloc (portObj b)) fun e w' => ∃ u, e = .returned u ∧ u = .iface 4 (.bool true) ∧ ButN [b, c, r] w.heap.size w w' := by
  have hD := Dgo.start h.has (Z := [b, c, r]) ⟨by simp, by simp, by simp⟩
  have hg := h.good
  have hcn := hg.cnt
  have hll : l.length = 3 := hg.ll
  obtain ⟨x0, hx0⟩ : ∃ x, l[0]? = some x := ⟨_, List.getElem?_eq_getElem (by omega)⟩
  obtain ⟨x1, hx1⟩ : ∃ x, l[1]? = some x := ⟨_, List.getElem?_eq_getElem (by omega)⟩
  have low0 := (hg.nod hx0).2.1
  have low1 := (hg.nod hx1).2.1
  have low1' : (⟨#[99]⟩ : ByteArray) = x1.nd.low := Option.some.inj low1
  have low0' : (⟨#[]⟩ : ByteArray) = x0.nd.low := Option.some.inj low0
  obtain ⟨j, z, m2, q1, -, q3, q4, q5, q6⟩ := hg.search hg.ok ⟨#[100]⟩ hx0 (by rw [← low0']; exact lt_empty _)
  have hj : j = 1 := by
    have hjl := (List.getElem?_eq_some_iff.1 q1).1
    have hz := (hg.nod q1).2.1
    match j, hjl, hz, q4 with
    | 0, _, _, q4 =>
      exfalso
      have := q4 ⟨#[99]⟩ rfl
      rw [lt_of_lists] at this
      exact absurd this (by decide)
    | 1, _, _, _ => rfl
    | 2, _, hz, _ =>
      exfalso
      have e : (⟨#[102]⟩ : ByteArray) = z.nd.low := Option.some.inj hz
      rw [← e, lt_of_lists] at q3
      exact absurd q3 (by decide)
    | j + 3, hjl, _, _ => omega
  subst hj
  rw [hx1] at q1
  cases q1
  have hR2 := hg.ok.asked q6
  obtain ⟨m3, p1, p2⟩ := hg.walk hR2 hx0
  have hc2 := q6.cnt
  have hlk := (hg.hs hx0).1
  have hzz : zy ∉ [b, c, r] := by
    have := h.zne
    simp only [List.mem_cons, List.not_mem_nil, or_false]; omega
  have c3 := LocM.cellD hzz h.var.lt hD (h.var.cell (i := 3) rfl)
  have hrw := (hD.sys.rowAt h.ha rfl).1
  have ch0 : (w.alloc (portObj b)).cell? ⟨gh, oh, none⟩ = some (.int .i64 x0.h) := hrw 0 _ (ints_get (l := l.map Nod.h) (by rw [List.getElem?_map, hx0]; rfl))
  have hs := search_call hD.sys (ptDo_quiet w b) 60 (by omega) x0.h ⟨#[100]⟩ (x1.h, x1.nd, 0) m2 q5
  have HY := Lib.hid h
  have HD := Lib.hid hD
  have HP := Lib.hid (⟨p1, p2, hzz, hll, hc2, hlk, hcn⟩ : _ ∧ _ ∧ _ ∧ _ ∧ _ ∧ _ ∧ _)
  have HX := Lib.hid (⟨hx0, hx1, low1'⟩ : _ ∧ _ ∧ _)
  show Calls Tryd.prog 37 #[.pointer (some ⟨w.heap.size, 0, none⟩), .pointer (some ⟨zy, 0, none⟩)] (w.alloc (portObj b)) _
  have mk := mkb4
  clear h hD hg hcn hll hx0 hx1 low0 low1 low1' low0' q3 q4 q5 q6 hR2 p1 p2 hc2 hlk hzz hrw
  generalize w.alloc (portObj b) = wp at *
  go_enter Tryd.func37, Tryd.ntmps37
  go_wp2_with fail
  refine hs.mono ?_
  rintro e w1 ⟨t2, G2, p, rfl, hin, ha⟩
  have hD2 := HD.out.aft ha
  have hDn := hD2.later (w2 := w1.alloc (.cells (x1.nd.row p).toArray 38)) ((Below.refl _ _).alloc (Nat.le_refl _) _)
  have sn := snew w1 (x1.nd.row p) 38
  obtain ⟨wn, hwn⟩ : ∃ W, W = w1.alloc (.cells (x1.nd.row p).toArray 38) := ⟨_, rfl⟩
  rw [← hwn] at hDn sn
  have hloc : Loc w0 b c r w.heap.size t2 G2 wn w1.heap.size := by rw [hwn]; exact hD2.sys.fresh _
  have c3' := LocM.cellD HP.out.2.2.1 HY.out.var.lt hDn (HY.out.var.cell (i := 3) rfl)
  have hrw := (hDn.sys.rowAt (HY.out.ha.more hDn.gro.1) rfl).1
  have ch0' : wn.cell? ⟨gh, oh, none⟩ = some (.int .i64 x0.h) := hrw 0 _ (ints_get (l := l.map Nod.h) (by rw [List.getElem?_map, HX.out.1]; rfl))
  have hwk := walks_call hDn.sys (ptDo_quiet w b) 41 (by obtain ⟨-, -, -, h4, h5, h6, h7⟩ := HP.out; omega) (by omega) x0.h l (fun e => by have := HP.out.2.2.2.1; rw [e] at this; simp at this) m3 HP.out.1
  rw [HP.out.2.2.2.1] at hwk
  have HW := Lib.hid hwn.symm
  have HDn := Lib.hid (⟨hDn, sn, hloc⟩ : _ ∧ _ ∧ _)
  unfold Nd.v
  simp only [Nd.row] at HW
  clear hs hin ha hD2 hDn sn hwn hloc hrw c3 ch0
  go_wp2_with (first | rw [HW.out] | fail)
  refine hwk.mono ?_
  rintro e w3 ⟨t3, G3, g, cap, vl, rfl, hV, ha⟩
  obtain ⟨hDn, sn, hloc⟩ := HDn.out
  have hD3 := hDn.aft ha
  obtain ⟨sn3, -⟩ := ha.svar hloc sn
  have c3'' := LocM.cellD HP.out.2.2.1 HY.out.var.lt hD3 (HY.out.var.cell (i := 3) rfl)
  have hrw := (hD3.sys.rowAt (HY.out.ha.more hD3.gro.1) rfl).1
  have ch1 : w3.cell? ⟨gh, oh + 1, none⟩ = some (.int .i64 x1.h) := hrw 1 _ (ints_get (l := l.map Nod.h) (by rw [List.getElem?_map, HX.out.2.1]; rfl))
  have cn := sn3.cell (i := 0) rfl
  rw [← HX.out.2.2] at cn
  have hvl3 : vl.length = 3 := by rw [hV.len]; exact HP.out.2.2.2.1
  have hri := rightV_any w3 (some ⟨g, 0, none⟩) cap vl hV.row hV.cap
  rw [hvl3] at hri
  have HRt := Lib.hid (HY.out.good.right hV.vs)
  have HB3 := Lib.hid hD3.but
  clear hwk hV ha hDn sn hloc hD3 sn3 hrw hvl3 HDn
  go_wp2_with fail
  refine hri.mono ?_
  rintro e w4 ⟨⟨rb, rfl, hrb⟩, hbl⟩
  obtain rfl : rb = true := hrb.2 HRt.out
  have HB4 := Lib.hid (HB3.out.trans (ButN.of hbl HB3.out.size))
  clear hri hrb hbl
  go_wp2_with fail
  go_ret
  exact ⟨_, rfl, rfl, HB4.out⟩
end
set_option maxHeartbeats 4000000 in
theorem awake_any (w : World) (hT : TabAt w) : Calls Tryd.prog 10 #[] w fun e w' => e = .returned (.bool true) ∧ Below w.heap.size w w' := by
  obtain ⟨wa, hwa⟩ : ∃ W, W = (w.alloc (.cells #[.string ⟨#[102]⟩, .string ⟨#[99]⟩] 9)).alloc (.cells #[.int .u8 1, .int .u8 0, .int .u8 2] 5) := ⟨_, rfl⟩
  have hza : wa.heap.size = w.heap.size + 2 := by rw [hwa]; simp
  have b1 : Below w.heap.size w (w.alloc (.cells #[.string ⟨#[102]⟩, .string ⟨#[99]⟩] 9)) := (Below.refl _ _).alloc (Nat.le_refl _) _
  have hba : Below w.heap.size w wa := by rw [hwa]; exact b1.alloc (by simp) _
  have s1 : SVar wa w.heap.size [.string ⟨#[102]⟩, .string ⟨#[99]⟩] := by
    rw [hwa]
    exact (snew w [.string ⟨#[102]⟩, .string ⟨#[99]⟩] 9).later ((Below.refl _ _).alloc (Nat.le_refl _) _)
  have s2 : SVar wa (w.heap.size + 1) [.int .u8 1, .int .u8 0, .int .u8 2] := by
    have := snew (w.alloc (.cells #[.string ⟨#[102]⟩, .string ⟨#[99]⟩] 9)) [.int .u8 1, .int .u8 0, .int .u8 2] 5
    rw [World.size_alloc] at this
    rw [hwa]; exact this
  have hl := lay_any wa (tab_later hT hba) (.slice (some ⟨w.heap.size, 0, none⟩) 2 2) (some ⟨w.heap.size + 1, 0, none⟩) 3 [⟨#[102]⟩, ⟨#[99]⟩] [1, 0, 2] (by decide) (.inr ⟨⟨w.heap.size, 0, none⟩, 2, rfl, .inr ⟨w.heap.size, 0, rfl, s1.lt, s1.at_⟩⟩) ⟨by decide, .inr ⟨w.heap.size + 1, 0, rfl, s2.lt, s2.at_⟩⟩ (by decide)
  have HW := Lib.hid hwa.symm
  have HB := Lib.hid (⟨hba, hza⟩ : _ ∧ _)
  clear hT hza b1 hba s1 s2 hwa
  go_enter Tryd.func10, Tryd.ntmps10
  go_wp2_with (first | rw [HW.out] | fail)
  refine hl.mono ?_
  rintro e w1 ⟨⟨b, c, r, G, m, y, l, rfl, hY⟩, hb1⟩
  obtain ⟨w2, hw2⟩ : ∃ W, W = w1.alloc (.cells y.row.toArray 29) := ⟨_, rfl⟩
  have hb2 : Below w1.heap.size w1 w2 := by rw [hw2]; exact (Below.refl _ _).alloc (Nat.le_refl _) _
  obtain ⟨gl, ol, cl, gt, ot, ct, gh, oh, ch, ey, hyw⟩ := hY.yw (W := w2) (by decide) hb2 (by rw [hw2]; exact hY.has.fresh (.cells y.row.toArray 29)) (by rw [hw2]; exact snew _ _ _)
  rw [lowsFC] at hyw
  have HW2 := Lib.hid hw2.symm
  have hdo := do_any w2 b 37 #[.pointer (some ⟨w1.heap.size, 0, none⟩)] _ he37f (awake1_any hyw)
  have c0 := hyw.var.cell (i := 0) rfl
  have c3 := hyw.var.cell (i := 3) rfl
  have hbw : Below w.heap.size w w2 := (HB.out.1.trans (hb1.mono (by have := HB.out.2; omega))).trans (hb2.mono (by have := HB.out.2; have := hb1.size; omega))
  have hgeo := hY.has.ge
  have HX := Lib.hid (⟨hbw, hgeo.1, hgeo.2.1, hgeo.2.2.1⟩ : _ ∧ _ ∧ _ ∧ _)
  subst ey
  rw [lowsFC] at HW2 ⊢
  have ay := as4_yes
  unfold Yr.v
  simp only [Yr.row, List.length_cons, List.length_nil, Nat.reduceAdd] at HW2 ⊢
  clear hl hb1 hw2 hb2 hY hyw hbw hgeo
  go_wp2_with (first | rw [HW2.out] | fail)
  refine hdo.mono ?_
  rintro e w3 ⟨u, rfl, rfl, hbn⟩
  have HE : Hid (Below w.heap.size w w3) := HX.out.1.trans ⟨hbn.os, hbn.tape, hbn.output, hbn.size, fun k hk => hbn.block k (by have := HX.out.1.size; omega) (by
    obtain ⟨-, h1, h2, h3⟩ := HX.out
    have := HB.out.2
    simp only [List.mem_cons, List.not_mem_nil, or_false]; omega)⟩
  clear hdo hbn
  go_wp2_with fail
  go_ret
  exact ⟨rfl, HE.out⟩
end Go.Proofs.YtibimnibmengpaaDoor
