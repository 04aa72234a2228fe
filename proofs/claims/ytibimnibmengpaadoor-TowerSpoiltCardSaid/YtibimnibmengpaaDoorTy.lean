/- For any keys, heights and text rundlelaw17.TowerFinds returns true. Condition: the library's table stands. -/
import Derived.Test.YtibimnibmengpaaDoorTx
namespace Go.Proofs.YtibimnibmengpaaDoor
open Go.RowKit Go.Op
set_option maxRecDepth 100000

theorem HasE.srow {w0 : World} {b c r : Nat} {G : List (Nat × List Value)} {w : World} {m : M} {g o n cp : Nat} {l : List ByteArray} (h : HasE w0 b c r G w m) (hin : (⟨some ⟨g, o, none⟩, n, cp⟩ : Sl).In G (strs l)) : SRow w (some ⟨g, o, none⟩) l := by
  rcases hin.row with e | ⟨g', o', r', e, hm, hr⟩
  · exact .inl (by simpa [strs] using e)
  · cases e
    obtain ⟨m0, -, -, -, -, h5⟩ := h
    have h6 := (h5 g r' hm).1
    exact .inr ⟨g, o, rfl, h6.lt, fun i x hx => h6.at_ _ _ (hr i x hx)⟩
theorem HasE.cnt0 {w0 : World} {b c r : Nat} {G : List (Nat × List Value)} {w : World} {m : M} (h : HasE w0 b c r G w m) : 0 ≤ m.count := by
  obtain ⟨m0, -, -, h3, h4, -⟩ := h
  rw [← h4]
  exact h3
theorem HasE.rowE {w0 : World} {b c r : Nat} {G : List (Nat × List Value)} {w : World} {m : M} {sl : Sl} {l : List Value} {g o : Nat} (h : HasE w0 b c r G w m) (hin : sl.In G l) (he : sl.a = some ⟨g, o, none⟩) {i : Nat} {x : Value} (hx : l[i]? = some x) : w.cell? ⟨g, o + i, none⟩ = some x ∧ g < w.heap.size ∧ g ∉ [b, c, r] := by
  rcases hin.row with e | ⟨g', o', r', e, hm, hr⟩
  · rw [e] at hx; simp at hx
  · rw [he] at e
    cases e
    obtain ⟨m0, -, -, -, -, h5⟩ := h
    obtain ⟨h6, -, h7, h8, h9⟩ := h5 g r' hm
    exact ⟨h6.at_ _ _ (hr i x hx), h6.lt, by simp only [List.mem_cons, List.not_mem_nil, or_false]; omega⟩
theorem Yw.later {w0 w w1 : World} {b c r : Nat} {G : List (Nat × List Value)} {m : M} {gl ol cl gt ot ct gh oh ch n : Nat} {l : List Nod} {lows : List ByteArray} {hts : List Int} {zy : Nat} (h : Yw w0 b c r G m gl ol cl gt ot ct gh oh ch n l lows hts zy w) (hb : Below w.heap.size w w1) : Yw w0 b c r G m gl ol cl gt ot ct gh oh ch n l lows hts zy w1 :=
  ⟨h.has.later hb, h.good, h.nn, h.la, h.ta, h.ha, h.var.later hb, h.zne⟩
theorem ButN.cell {Z : List Nat} {B : Nat} {w w1 : World} {g i : Nat} {v : Value} (h : ButN Z B w w1) (hg : g < B) (hz : g ∉ Z) (hc : w.cell? ⟨g, i, none⟩ = some v) : w1.cell? ⟨g, i, none⟩ = some v := by
  rw [World.cell?_of_block (w := w) (a := ⟨g, i, none⟩) (h.block g hg hz)]
  exact hc
set_option maxHeartbeats 8000000 in
theorem finds_law (w : World) (hT : TabAt w) (a1 a2 : Option Addr) (cap1 cap2 : Nat) (ks : List ByteArray) (us : List Nat) (t : ByteArray) (hks : KArg w (.slice a1 ks.length cap1) ks) (hkl : ks.length ≤ 9223372036854775807) (hus : UArg w a2 us) (hul : us.length ≤ 9223372036854775807) (htl : t.size ≤ 9223372036854775807) :
    Calls Tryd.prog 3 #[.slice a1 ks.length cap1, .slice a2 us.length cap2, .string t] w fun e w' => e = .returned (.bool true) ∧ Below w.heap.size w w' := by
  obtain ⟨wa, hwa⟩ : ∃ W, W = w.alloc (.cells #[.string t] 9) := ⟨_, rfl⟩
  have hza : wa.heap.size = w.heap.size + 1 := by rw [hwa]; simp
  have hba : Below w.heap.size w wa := by rw [hwa]; exact (Below.refl _ _).alloc (Nat.le_refl _) _
  have sk : SVar wa w.heap.size [.string t] := by rw [hwa]; exact snew _ _ _
  have haw := awake_any wa (hT.below hba)
  have HW := Lib.hid hwa.symm
  have HA := Lib.hid (⟨hza, hba, sk, hT, hks, hus, hul, hkl⟩ : _ ∧ _ ∧ _ ∧ _ ∧ _ ∧ _ ∧ _ ∧ _)
  have htl2 : (t.size : Int) ≤ 9223372036854775807 := by omega
  clear hza hba hwa hT hks hus hul hkl
  go_enter Tryd.func3, Tryd.ntmps3
  go_wp2_with (first | rw [HW.out] | fail)
  refine haw.mono ?_
  rintro e w1 ⟨rfl, hb1⟩
  obtain ⟨hza, hba, -, hT, hks, hus, hul, hkl⟩ := HA.out
  have hs1 := hb1.size
  have hbw1 : Below w.heap.size w w1 := hba.trans (hb1.mono (by omega))
  have haw1 := awake_any w1 (hT.below hbw1)
  obtain ⟨a1', cap1', e1, hsr⟩ := (hks.later hbw1).val
  obtain ⟨rfl, -, rfl⟩ := Value.slice.inj e1
  have hlong := long_any w1 a1 cap1 ks (by omega) hsr
  have hlay := lay_any w1 (hT.below hbw1) (.slice a1 ks.length cap1) a2 cap2 ks us
  have ck := (sk.later hb1).cell (i := 0) rfl
  have HB1 := Lib.hid (⟨hbw1, sk.later hb1, hks.later hbw1, hus.later hbw1, hul⟩ : _ ∧ _ ∧ _ ∧ _ ∧ _)
  clear haw hb1 hza hba hT hks hus hul hs1 hbw1 hsr e1 hkl HW sk
  go_wp2_with fail
  refine hlong.mono ?_
  rintro e w1' ⟨⟨rb, rfl, hrb⟩, rfl⟩
  cases rb with
  | true =>
    clear hrb hlay hlong
    go_wp2_with fail
    refine haw1.mono ?_
    rintro e w2 ⟨rfl, hb2⟩
    have HE : Hid (Below w.heap.size w w2) := HB1.out.1.trans (hb2.mono HB1.out.1.size)
    clear haw1 hb2
    go_wp2_with fail
    go_ret
    exact ⟨rfl, HE.out⟩
  | false =>
  have hk40 := hrb rfl
  by_cases ht : t.size ≤ 20000
  rotate_left
  · have ht2 : (20000 : Int) < (t.size : Int) := by omega
    clear hrb hlay hlong ht
    go_wp2_with fail
    refine haw1.mono ?_
    rintro e w2 ⟨rfl, hb2⟩
    have HE : Hid (Below w.heap.size w w2) := HB1.out.1.trans (hb2.mono HB1.out.1.size)
    clear haw1 hb2
    go_wp2_with fail
    go_ret
    exact ⟨rfl, HE.out⟩
  have ht2 : ¬ (20000 : Int) < (t.size : Int) := by omega
  have ht3 : decide ((20000 : Int) < (t.size : Int)) = false := decide_eq_false ht2
  have hlay := hlay hk40 HB1.out.2.2.1 HB1.out.2.2.2.1 HB1.out.2.2.2.2
  have HK := Lib.hid hk40
  clear hrb hlong haw1
  go_wp2_with fail
  refine hlay.mono ?_
  rintro e w2 ⟨⟨b, c, r, G, m, y, l, rfl, hY⟩, hb2⟩
  obtain ⟨w3, hw3⟩ : ∃ W, W = w2.alloc (.cells y.row.toArray 29) := ⟨_, rfl⟩
  have hb3 : Below w2.heap.size w2 w3 := by rw [hw3]; exact (Below.refl _ _).alloc (Nat.le_refl _) _
  obtain ⟨gl, ol, cl, gt, ot, ct, gh, oh, ch, ey, hyw⟩ := hY.yw (W := w3) HK.out hb3 (by rw [hw3]; exact hY.has.fresh (.cells y.row.toArray 29)) (by rw [hw3]; exact snew _ _ _)
  obtain ⟨n, hn⟩ : ∃ n, n = (lowsOf ks).length := ⟨_, rfl⟩
  rw [← hn] at ey
  subst ey
  have hn41 : n ≤ 41 := by have := (lowsOf_up ks).2.2; have := HK.out; omega
  have HW3 := Lib.hid hw3.symm
  have hcount := count_any hyw.has
  have hfind := refFind_any w3 (some ⟨gl, ol, none⟩) cl (lowsOf ks) (by omega) (hyw.has.srow hyw.la) t
  rw [← hn] at hyw hfind
  have c0 := hyw.var.cell (i := 0) rfl
  have c1 := hyw.var.cell (i := 1) rfl
  have hgeo := hY.has.ge
  have hbw3 : Below w1.heap.size w1 w3 := hb2.trans (hb3.mono hb2.size)
  have sk3 := HB1.out.2.1.later hbw3
  have ck3 := sk3.cell (i := 0) rfl
  have HX := Lib.hid (⟨hyw, hbw3, sk3, hgeo⟩ : _ ∧ _ ∧ _ ∧ _)
  unfold Yr.v
  simp only [Yr.row] at HW3
  have HNn := Lib.hid hn
  clear hlay hY hb2 hw3 hb3 hyw hgeo hbw3 sk3 ck hn
  go_wp2_with (first | rw [HW3.out] | fail)
  refine hcount.mono ?_
  rintro e w3' ⟨rfl, rfl⟩
  go_wp2_with fail
  refine hfind.mono ?_
  rintro e w3' ⟨⟨i, rfl, hF⟩, rfl⟩
  obtain ⟨hyw, hbw3, sk3, hg1, hg2, hg3, hg4⟩ := HX.out
  obtain ⟨w4, hw4⟩ : ∃ W, W = w3.alloc (.cells #[.int .i64 (i : Int)] 3) := ⟨_, rfl⟩
  have hb4 : Below w3.heap.size w3 w4 := by rw [hw4]; exact (Below.refl _ _).alloc (Nat.le_refl _) _
  have si : SVar w4 w3.heap.size [.int .i64 (i : Int)] := by rw [hw4]; exact snew _ _ _
  have hyw4 := hyw.later hb4
  have hl0 : LocM w1 b c r G w4 w3.heap.size := by rw [hw4]; exact hyw.has.fresh _
  have hwlt : w.heap.size < w1.heap.size := HB1.out.2.1.lt
  obtain ⟨L, hL⟩ : ∃ L, (htsOf us n)[0]? = some L := ⟨_, List.getElem?_eq_getElem (by rw [hyw.good.len]; have := (List.getElem?_eq_some_iff.1 hyw.good.zero).1; omega)⟩
  have hLr := hyw.good.pos L (List.mem_of_getElem? hL)
  have hdo := do_any w4 b 16 #[.pointer (some ⟨w2.heap.size, 0, none⟩), .pointer (some ⟨w.heap.size, 0, none⟩), .pointer (some ⟨w3.heap.size, 0, none⟩)] _ he16
    (finds1_any hyw4 t i hF (sk3.later hb4) si (by simp only [List.mem_cons, List.not_mem_nil, or_false]; omega) (by have := hl0.ne; simp only [List.mem_cons, List.not_mem_nil, or_false]; omega) L hL)
  have hzz : w2.heap.size ∉ [b, c, r] := by
    have := hyw.zne
    simp only [List.mem_cons, List.not_mem_nil, or_false]; omega
  have hcT := hyw4.has.rowE hyw4.ta rfl (ints_get hL)
  have HW4 := Lib.hid hw4.symm
  have c04 := hyw4.var.cell (i := 0) rfl
  have hm0 := hyw4.has.cnt0
  have hmc := hyw4.good.cnt
  have HX4 := Lib.hid (⟨hyw4, hcT, hzz, HB1.out.1.trans ((hbw3.trans (hb4.mono hbw3.size)).mono (Nat.le_of_lt hwlt)), hwlt, hg1, hg2, hg3⟩ : _ ∧ _ ∧ _ ∧ _ ∧ _ ∧ _ ∧ _ ∧ _)
  have ay := as4_yes
  clear hcount hfind hF hyw hbw3 sk3 hg1 hg2 hg3 hg4 hw4 hb4 si hyw4 hl0 hL hzz hcT HX c0 c1 ck3
  go_wp2_with (first | rw [HW4.out] | fail)
  refine hdo.mono ?_
  rintro e w5 ⟨u, rfl, rfl, hQ⟩
  obtain ⟨G5, m5, hbn, hhe, hle⟩ := hQ
  obtain ⟨hyw4, hcT, hzz, hbw4, hwlt, hg1, hg2, hg3⟩ := HX4.out
  have c0 := hbn.cell hyw4.var.lt hzz (hyw4.var.cell (i := 0) rfl)
  have c2 := hbn.cell hyw4.var.lt hzz (hyw4.var.cell (i := 2) rfl)
  have c3 := hbn.cell hyw4.var.lt hzz (hyw4.var.cell (i := 3) rfl)
  have cT : w5.cell? ⟨gt, ot, none⟩ = some (.int .i64 L) := hbn.cell hcT.2.1 hcT.2.2 hcT.1
  have hcount : ∀ nq, Calls Tryd.prog 13 #[.pointer (some ⟨b, 0, none⟩)] (w5.drewN nq) fun e w' => e = .returned (.int .i64 m5.count) ∧ w' = w5.drewN nq := fun nq => (count_any (hhe.later (below_drewN _ nq))).mono fun e w' h => ⟨h.1, h.2.symm⟩
  have h50 := hhe.cnt0
  have h5c : m5.count - m.count ≤ 2 * ((n : Int) + L) + 1 := by omega
  have h5d : m5.count ≤ 1000 := by omega
  have hn0 : (0 : Int) ≤ (n : Int) := by omega
  have hn0' : 0 < n := by rw [HNn.out]; exact (List.getElem?_eq_some_iff.1 hyw4.good.zero).1
  have hn42 : (n : Int) ≤ 41 := by omega
  have hL1 := hLr.1
  have hL2 := hLr.2
  have HE : Hid (∀ nq, Below w.heap.size w (w5.drewN nq)) := fun nq => (hbw4.trans ⟨hbn.os, hbn.tape, hbn.output, hbn.size, fun k hk => hbn.block k (by have := hbw4.size; omega) (by
    simp only [List.mem_cons, List.not_mem_nil, or_false]; omega)⟩).trans (below_drewN _ nq)
  clear hdo hbn hhe hle hyw4 hcT hzz hbw4 hwlt hg1 hg2 hg3 hLr c04
  go_wp2_with fail
  go_quiet (first | (go_at_call 13; refine Calls.quiet_of_same (hcount _)))
  go_wp2_with fail
  go_ret
  exact ⟨rfl, HE.out _⟩
theorem findsLaw (W : World) (hT : TabAt W) (a0 : Option Addr) (l0 : List ByteArray) (cap0 : Nat) (w0 : KArg W (.slice a0 l0.length cap0) l0) (x0 : l0.length ≤ 9223372036854775807) (a1 : Option Addr) (l1 : List Nat) (cap1 : Nat) (w1 : UArg W a1 l1) (x1 : l1.length ≤ 9223372036854775807) (a2 : ByteArray) (w2 : a2.size ≤ maxLen) :
    Calls Tryd.prog 3 #[.slice a0 l0.length cap0, .slice a1 l1.length cap1, .string a2] W fun e w' => e = .returned (.bool true) ∧ Below W.heap.size W w' := finds_law W hT a0 a1 cap0 cap1 l0 l1 a2 w0 x0 w1 x1 w2
end Go.Proofs.YtibimnibmengpaaDoor
