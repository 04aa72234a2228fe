/- For any keys, two rows of heights and a text rundlelaw17.TowerSame returns true. Condition: the library's table stands. -/
import Derived.Test.YtibimnibmengpaaDoorVa
namespace Go.Proofs.YtibimnibmengpaaDoor
open Go.RowKit Go.Op
set_option maxRecDepth 100000

theorem Good.find {m : M} {lows : List ByteArray} {hts : List Int} {l : List Nod} (hg : Good m lows hts l) (t : ByteArray) : ∃ i x, FindP lows t i ∧ lows[i]? = some x := by
  have h0 := (List.getElem?_eq_some_iff.1 hg.zero).1
  obtain ⟨x0, hx0⟩ : ∃ x, l[0]? = some x := ⟨_, List.getElem?_eq_getElem (by have := hg.ll; omega)⟩
  have low0 : (⟨#[]⟩ : ByteArray) = x0.nd.low := Option.some.inj (hg.zero.symm.trans (hg.nod hx0).2.1)
  obtain ⟨j, z, -, q1, -, q3, q4, -, -⟩ := hg.search hg.ok t hx0 (by rw [← low0]; exact lt_empty _)
  refine ⟨j, z.nd.low, ⟨.inr ⟨_, (hg.nod q1).2.1, q3⟩, fun k y hy hyl => ?_⟩, (hg.nod q1).2.1⟩
  apply Classical.byContradiction
  intro hk
  have hkl := (List.getElem?_eq_some_iff.1 hy).1
  obtain ⟨u, hu⟩ : ∃ u, lows[j + 1]? = some u := ⟨_, List.getElem?_eq_getElem (by omega)⟩
  have htu := q4 u hu
  by_cases e : j + 1 = k
  · rw [e, hy] at hu
    cases hu
    rw [htu] at hyl
    cases hyl
  · have := List.pairwise_iff_getElem.1 hg.up (j + 1) k (by omega) hkl (by omega)
    rw [(List.getElem?_eq_some_iff.1 hu).2, (List.getElem?_eq_some_iff.1 hy).2] at this
    have h3 : lt t y = true := less_trans _ _ _ htu this
    rw [h3] at hyl
    cases hyl
set_option maxHeartbeats 8000000 in
theorem sameLaw (w : World) (hT : TabAt w) (a1 : Option Addr) (ks : List ByteArray) (cap1 : Nat) (hks : KArg w (.slice a1 ks.length cap1) ks) (hkl : ks.length ≤ 9223372036854775807) (a2 : Option Addr) (us : List Nat) (cap2 : Nat) (hus : UArg w a2 us) (hul : us.length ≤ 9223372036854775807)
    (a3 : Option Addr) (vs : List Nat) (cap3 : Nat) (hvs : UArg w a3 vs) (hvl : vs.length ≤ 9223372036854775807) (t : ByteArray) (htl : t.size ≤ maxLen) :
    Calls Tryd.prog 9 #[.slice a1 ks.length cap1, .slice a2 us.length cap2, .slice a3 vs.length cap3, .string t] w fun e w' => e = .returned (.bool true) ∧ Below w.heap.size w w' := by
  replace htl : t.size ≤ 9223372036854775807 := htl
  obtain ⟨wa, hwa⟩ : ∃ W, W = w.alloc (.cells #[.string t] 9) := ⟨_, rfl⟩
  have hza : wa.heap.size = w.heap.size + 1 := by rw [hwa]; simp
  have hba : Below w.heap.size w wa := by rw [hwa]; exact (Below.refl _ _).alloc (Nat.le_refl _) _
  have sk : SVar wa w.heap.size [.string t] := by rw [hwa]; exact snew _ _ _
  have haw := awake_any wa (hT.below hba)
  have HW := Lib.hid hwa.symm
  have HA := Lib.hid (⟨hza, hba, sk, hT, hks, hus, hul, hkl, hvs, hvl⟩ : _ ∧ _ ∧ _ ∧ _ ∧ _ ∧ _ ∧ _ ∧ _ ∧ _ ∧ _)
  have htl2 : (t.size : Int) ≤ 9223372036854775807 := by omega
  clear hza hba hwa hT hks hus hul hkl hvs hvl
  go_enter Tryd.func9, Tryd.ntmps9
  go_wp2_with (first | rw [HW.out] | fail)
  refine haw.mono ?_
  rintro e w1 ⟨rfl, hb1⟩
  obtain ⟨hza, hba, -, hT, hks, hus, hul, hkl, hvs, hvl⟩ := HA.out
  have hs1 := hb1.size
  have hbw1 : Below w.heap.size w w1 := hba.trans (hb1.mono (by omega))
  have haw1 := awake_any w1 (hT.below hbw1)
  obtain ⟨a1', cap1', e1, hsr⟩ := (hks.later hbw1).val
  obtain ⟨rfl, -, rfl⟩ := Value.slice.inj e1
  have hlong := long_any w1 a1 cap1 ks (by omega) hsr
  have hlay := lay_any w1 (hT.below hbw1) (.slice a1 ks.length cap1) a2 cap2 ks us
  have ck := (sk.later hb1).cell (i := 0) rfl
  have HB1 := Lib.hid (⟨hbw1, sk.later hb1, hks.later hbw1, hus.later hbw1, hul, hvs.later hbw1, hvl, hT.below hbw1⟩ : _ ∧ _ ∧ _ ∧ _ ∧ _ ∧ _ ∧ _ ∧ _)
  clear haw hb1 hza hba hT hks hus hul hs1 hbw1 hsr e1 hkl HW sk hvs hvl
  go_wp2_with fail
  refine hlong.mono ?_
  rintro e w1' ⟨⟨rb, rfl, hrb⟩, rfl⟩
  cases rb with
  | true =>
    clear hrb hlay hlong
    go_wp2_with fail
    refine haw1.mono ?_
    rintro e w2 ⟨rfl, hb2⟩
    have HE : Hid (Below w.heap.size w w2) := HB1.out.1.trans (hb2.mono HB1.out.1.size)
    clear haw1 hb2
    go_wp2_with fail
    go_ret
    exact ⟨rfl, HE.out⟩
  | false =>
  have hk40 := hrb rfl
  by_cases ht : t.size ≤ 20000
  rotate_left
  · have ht2 : (20000 : Int) < (t.size : Int) := by omega
    clear hrb hlay hlong ht
    go_wp2_with fail
    refine haw1.mono ?_
    rintro e w2 ⟨rfl, hb2⟩
    have HE : Hid (Below w.heap.size w w2) := HB1.out.1.trans (hb2.mono HB1.out.1.size)
    clear haw1 hb2
    go_wp2_with fail
    go_ret
    exact ⟨rfl, HE.out⟩
  have ht2 : ¬ (20000 : Int) < (t.size : Int) := by omega
  have ht3 : decide ((20000 : Int) < (t.size : Int)) = false := decide_eq_false ht2
  have hlay := hlay hk40 HB1.out.2.2.1 HB1.out.2.2.2.1 HB1.out.2.2.2.2.1
  have HK := Lib.hid hk40
  clear hrb hlong haw1
  go_wp2_with fail
  refine hlay.mono ?_
  rintro e w2 ⟨⟨b, c, r, G, m, y, l, rfl, hY⟩, hb2⟩
  obtain ⟨w3, hw3⟩ : ∃ W, W = w2.alloc (.cells y.row.toArray 29) := ⟨_, rfl⟩
  have hb3 : Below w2.heap.size w2 w3 := by rw [hw3]; exact (Below.refl _ _).alloc (Nat.le_refl _) _
  obtain ⟨gl, ol, cl, gt, ot, ct, gh, oh, ch, ey, hyw⟩ := hY.yw (W := w3) HK.out hb3 (by rw [hw3]; exact hY.has.fresh (.cells y.row.toArray 29)) (by rw [hw3]; exact snew _ _ _)
  obtain ⟨n, hn⟩ : ∃ n, n = (lowsOf ks).length := ⟨_, rfl⟩
  rw [← hn] at ey
  subst ey
  have hn41 : n ≤ 41 := by have := (lowsOf_up ks).2.2; have := HK.out; omega
  have HW3 := Lib.hid hw3.symm
  rw [← hn] at hyw
  have hbw3 : Below w1.heap.size w1 w3 := hb2.trans (hb3.mono hb2.size)
  have sk3 := HB1.out.2.1.later hbw3
  have hlay2 := lay_any w3 (HB1.out.2.2.2.2.2.2.2.below hbw3) (.slice a1 ks.length cap1) a3 cap3 ks vs HK.out (HB1.out.2.2.1.later hbw3) (HB1.out.2.2.2.2.2.1.later hbw3) HB1.out.2.2.2.2.2.2.1
  have HNn := Lib.hid hn
  have HX := Lib.hid (⟨hyw, hbw3, sk3⟩ : _ ∧ _ ∧ _)
  unfold Yr.v
  simp only [Yr.row] at HW3
  clear hlay hY hb2 hw3 hb3 hyw hbw3 sk3 ck hn
  go_wp2_with (first | rw [HW3.out] | fail)
  refine hlay2.mono ?_
  rintro e w4 ⟨⟨b2, c2, r2, G2, m2, y2, l2, rfl, hY2⟩, hb4⟩
  obtain ⟨hyw, hbw3, sk3⟩ := HX.out
  obtain ⟨w5, hw5⟩ : ∃ W, W = w4.alloc (.cells y2.row.toArray 29) := ⟨_, rfl⟩
  have hb5 : Below w4.heap.size w4 w5 := by rw [hw5]; exact (Below.refl _ _).alloc (Nat.le_refl _) _
  obtain ⟨gl2, ol2, cl2, gt2, ot2, ct2, gh2, oh2, ch2, ey, hyw2⟩ := hY2.yw (W := w5) HK.out hb5 (by rw [hw5]; exact hY2.has.fresh (.cells y2.row.toArray 29)) (by rw [hw5]; exact snew _ _ _)
  rw [← HNn.out] at ey hyw2
  subst ey
  have hb35 : Below w3.heap.size w3 w5 := hb4.trans (hb5.mono hb4.size)
  have hyw5 := hyw.later hb35
  have sk5 := sk3.later hb35
  obtain ⟨i, lo, hF, hlo⟩ := hyw5.good.find t
  have hgeo := hyw.has.ge
  have hwlt : w.heap.size < w1.heap.size := HB1.out.2.1.lt
  have hltb : b < w3.heap.size ∧ c < w3.heap.size ∧ r < w3.heap.size := by
    obtain ⟨m0, h1, -⟩ := hyw.has
    exact ⟨h1.at_.own.lb, h1.at_.own.lc, h1.at_.own.lr⟩
  have hf1 := same35_any hyw5 t i hF hlo sk5 (by simp only [List.mem_cons, List.not_mem_nil, or_false]; omega)
  have hrow1 := hyw5.var.load sh29
  have c11 := hyw5.var.cell (i := 1) rfl
  have c12 := hyw2.var.cell (i := 1) rfl
  have HW5 := Lib.hid hw5.symm
  have HX5 := Lib.hid (⟨hyw2, hbw3, hb35, sk5, hF, hlo, hgeo, hltb, hwlt, hb4.size⟩ : _ ∧ _ ∧ _ ∧ _ ∧ _ ∧ _ ∧ _ ∧ _ ∧ _ ∧ _)
  unfold Yr.v
  simp only [Yr.row] at HW5
  clear hlay2 hY2 hb4 hw5 hb5 hyw2 hyw5 hb35 sk5 hF hlo hgeo hltb hyw hbw3 sk3 HX
  go_wp2_with (first | rw [HW5.out] | ((with_reducible refine load_run ?_ (.tmp 9) 29 ?_ ?_ hrow1 ?_); exact rfl; exact rfl; exact rfl) | fail)
  refine hf1.mono ?_
  rintro e w6 ⟨rfl, hbn⟩
  obtain ⟨hyw2, hbw3, hb35, sk5, hF, hlo, hgeo, hltb, hwlt, h34⟩ := HX5.out
  have hZ : ∀ z, z ∈ [b, c, r] → w1.heap.size ≤ z ∧ z < w3.heap.size := fun z hz => by
    simp only [List.mem_cons, List.not_mem_nil, or_false] at hz
    omega
  have h35 := hb35.size
  have hgeo2 := hyw2.has.ge
  have hzy2 : w4.heap.size ∉ [b, c, r] := fun hm => by have := (hZ _ hm).2; omega
  have hyw6 := hyw2.over hbw3 hbn hZ hzy2
  have hwz : w.heap.size ∉ [b, c, r] := fun hm => by have := (hZ _ hm).1; omega
  have sk6 := sk5.same hbn.size (hbn.block _ sk5.lt hwz)
  have hw13 := hbw3.size
  have hf2 := same35_any hyw6 t i hF hlo sk6 (by simp only [List.mem_cons, List.not_mem_nil, or_false]; omega)
  have hrow2 := hyw6.var.load sh29
  have hbw6 : Below w.heap.size w w6 := (((HB1.out.1.trans (hbw3.mono (by omega))).trans (hb35.mono (by omega))).trans ⟨hbn.os, hbn.tape, hbn.output, hbn.size, fun k hk => hbn.block k (by omega) fun hm => by have := (hZ _ hm).1; omega⟩)
  have HE6 := Lib.hid (⟨hbw6, hgeo2, hw13, hwlt⟩ : _ ∧ _ ∧ _ ∧ _)
  clear hf1 hbn hyw2 hbw3 hb35 sk5 hF hlo hgeo hltb hwlt h34 hZ h35 hgeo2 hzy2 hyw6 hwz sk6 hw13 hbw6 hrow1
  go_wp2_with (first | ((with_reducible refine load_run ?_ (.tmp 11) 29 ?_ ?_ hrow2 ?_); exact rfl; exact rfl; exact rfl) | fail)
  refine hf2.mono ?_
  rintro e w7 ⟨rfl, hbn⟩
  have HE : Hid (Below w.heap.size w w7) := by
    obtain ⟨h1, h2, h3, h4⟩ := HE6.out
    have := h1.size
    exact h1.trans ⟨hbn.os, hbn.tape, hbn.output, hbn.size, fun k hk => hbn.block k (by omega) (by simp only [List.mem_cons, List.not_mem_nil, or_false]; omega)⟩
  clear hf2 hbn hrow2
  go_wp2_with fail
  go_ret
  exact ⟨rfl, HE.out⟩
end Go.Proofs.YtibimnibmengpaaDoor
