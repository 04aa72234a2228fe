/- For any keys, heights and way to spoil a view rundlelaw17.TowerSpoilt returns true. Condition: the library's table stands. -/
import Derived.Test.YtibimnibmengpaaDoorWb
import Derived.Test.YtibimnibmengpaaDoorOpenC
namespace Go.Proofs.YtibimnibmengpaaDoor
open Go.RowKit Go.Op
set_option maxRecDepth 100000

theorem u8_nat {n : Int} (h : (Lit.int .u8 n).wf = true) : ∃ u : Nat, n = (u : Int) ∧ u ≤ 255 := by
  simp [Lit.wf, IntKind.min, IntKind.max, IntKind.signed, IntKind.bits] at h
  exact ⟨n.toNat, by omega, by omega⟩
theorem vrow_nil (w : World) : VRow w none [] := ⟨.inl rfl, fun x hx => (by cases hx), by simp⟩
set_option maxHeartbeats 8000000 in
theorem spoiltLaw (w : World) (hT : TabAt w) (a1 : Option Addr) (ks : List ByteArray) (cap1 : Nat) (hks : KArg w (.slice a1 ks.length cap1) ks) (hkl : ks.length ≤ 9223372036854775807) (a2 : Option Addr) (us : List Nat) (cap2 : Nat) (hus : UArg w a2 us) (hul : us.length ≤ 9223372036854775807)
    (pa pd pl : Int) (t : ByteArray) (xw : Int) (hpa : (Lit.int .u8 pa).wf = true) (hpd : (Lit.int .u8 pd).wf = true) (hpl : (Lit.int .u8 pl).wf = true) :
    Calls Tryd.prog 6 #[.slice a1 ks.length cap1, .slice a2 us.length cap2, spV pa pd pl t xw] w fun e w' => e = .returned (.bool true) ∧ Below w.heap.size w w' := by
  obtain ⟨ua, rfl, hua⟩ := u8_nat hpa
  obtain ⟨ud, rfl, hud⟩ := u8_nat hpd
  obtain ⟨ul, rfl, hul8⟩ := u8_nat hpl
  obtain ⟨wa, hwa⟩ : ∃ W, W = w.alloc (.cells #[.int .u8 (ua : Int), .int .u8 (ud : Int), .int .u8 (ul : Int), .string t, .int .i64 xw] 69) := ⟨_, rfl⟩
  have hza : wa.heap.size = w.heap.size + 1 := by rw [hwa]; simp
  have hba : Below w.heap.size w wa := by rw [hwa]; exact (Below.refl _ _).alloc (Nat.le_refl _) _
  have sa : SVar wa w.heap.size [.int .u8 (ua : Int), .int .u8 (ud : Int), .int .u8 (ul : Int), .string t, .int .i64 xw] := by rw [hwa]; exact snew _ _ _
  unfold spV
  have haw := awake_any wa (hT.below hba)
  have HW := Lib.hid hwa.symm
  have HA := Lib.hid (⟨hza, hba, sa, hT, hks, hus, hul, hkl⟩ : _ ∧ _ ∧ _ ∧ _ ∧ _ ∧ _ ∧ _ ∧ _)
  have Hwf := Lib.hid (⟨hua, hud, hul8⟩ : _ ∧ _ ∧ _)
  clear hza hba hwa hT hks hus hul hkl sa hpa hpd hpl hua hud hul8
  go_enter Tryd.func6, Tryd.ntmps6
  go_wp2_with (first | rw [HW.out] | fail)
  refine haw.mono ?_
  rintro e w1 ⟨rfl, hb1⟩
  obtain ⟨hza, hba, sa, hT, hks, hus, hul, hkl⟩ := HA.out
  have hs1 := hb1.size
  have hbw1 : Below w.heap.size w w1 := hba.trans (hb1.mono (by omega))
  have haw1 := awake_any w1 (hT.below hbw1)
  obtain ⟨a1', cap1', e1, hsr⟩ := (hks.later hbw1).val
  obtain ⟨rfl, -, rfl⟩ := Value.slice.inj e1
  have hlong := long_any w1 a1 cap1 ks (by omega) hsr
  have hlay := lay_any w1 (hT.below hbw1) (.slice a1 ks.length cap1) a2 cap2 ks us
  have cxt := (sa.later hb1).cell (i := 3) rfl
  have HB1 := Lib.hid (⟨hbw1, sa.later hb1, hks.later hbw1, hus.later hbw1, hul⟩ : _ ∧ _ ∧ _ ∧ _ ∧ _)
  clear haw hb1 hza hba hT hks hus hul hs1 hbw1 hsr e1 hkl HW sa
  go_wp2_with fail
  refine hlong.mono ?_
  rintro e w1' ⟨⟨rb, rfl, hrb⟩, rfl⟩
  cases rb with
  | true =>
    clear hrb hlay hlong cxt
    go_wp2_with fail
    refine haw1.mono ?_
    rintro e w2 ⟨rfl, hb2⟩
    have HE : Hid (Below w.heap.size w w2) := HB1.out.1.trans (hb2.mono HB1.out.1.size)
    clear haw1 hb2
    go_wp2_with fail
    go_ret
    exact ⟨rfl, HE.out⟩
  | false =>
  have hk40 := hrb rfl
  have hlay := hlay hk40 HB1.out.2.2.1 HB1.out.2.2.2.1 HB1.out.2.2.2.2
  have HK := Lib.hid hk40
  by_cases hbig : (2000 : Int) < (t.size : Int)
  · clear hrb hlay hlong
    go_wp2_with fail
    refine haw1.mono ?_
    rintro e w2 ⟨rfl, hb2⟩
    have HE : Hid (Below w.heap.size w w2) := HB1.out.1.trans (hb2.mono HB1.out.1.size)
    clear haw1 hb2 cxt
    go_wp2_with fail
    go_ret
    exact ⟨rfl, HE.out⟩
  clear hrb hlong haw1
  go_wp2_with fail
  refine hlay.mono ?_
  rintro e w2 ⟨⟨b, c, r, G, m, y, l, rfl, hY⟩, hb2⟩
  obtain ⟨w3, hw3⟩ : ∃ W, W = w2.alloc (.cells y.row.toArray 29) := ⟨_, rfl⟩
  have hb3 : Below w2.heap.size w2 w3 := by rw [hw3]; exact (Below.refl _ _).alloc (Nat.le_refl _) _
  obtain ⟨gl, ol, cl, gt, ot, ct, gh, oh, ch, ey, hyw⟩ := hY.yw (W := w3) HK.out hb3 (by rw [hw3]; exact hY.has.fresh (.cells y.row.toArray 29)) (by rw [hw3]; exact snew _ _ _)
  obtain ⟨n, hn⟩ : ∃ n, n = (lowsOf ks).length := ⟨_, rfl⟩
  rw [← hn] at ey
  subst ey
  have HW3 := Lib.hid hw3.symm
  rw [← hn] at hyw
  have hbw3 : Below w1.heap.size w1 w3 := hb2.trans (hb3.mono hb2.size)
  have hgeo := hyw.has.ge
  have hwlt : w.heap.size < w1.heap.size := HB1.out.2.1.lt
  have hdo := do_any w3 b 28 #[.pointer (some ⟨w2.heap.size, 0, none⟩), .pointer (some ⟨w.heap.size, 0, none⟩)] _ he28
    (spoilt1_any hyw ua ud ul Hwf.out.1 Hwf.out.2.1 Hwf.out.2.2 t xw (HB1.out.2.1.later hbw3) (by simp only [List.mem_cons, List.not_mem_nil, or_false]; omega))
  have c0 := hyw.var.cell (i := 0) rfl
  have ay := as4_yes
  have HE5 := Lib.hid (⟨HB1.out.1.trans (hbw3.mono (by omega)), hgeo, hwlt⟩ : _ ∧ _ ∧ _)
  unfold Yr.v
  simp only [Yr.row] at HW3
  clear cxt hbig hlay hY hb2 hw3 hb3 hyw hbw3 hn hgeo hwlt
  go_wp2_with (first | rw [HW3.out] | fail)
  refine hdo.mono ?_
  rintro e w6 ⟨u1, rfl, rfl, hbn⟩
  have HE : Hid (Below w.heap.size w w6) := by
    obtain ⟨h1, h2, h3⟩ := HE5.out
    have := h1.size
    exact h1.trans ⟨hbn.os, hbn.tape, hbn.output, hbn.size, fun k hk => hbn.block k (by omega) (by simp only [List.mem_cons, List.not_mem_nil, or_false]; omega)⟩
  have hri := rightV_any w6 none 0 [] (vrow_nil w6) (Nat.le_refl _)
  rw [List.length_nil] at hri
  clear hdo hbn c0
  go_wp2_with fail
  refine hri.mono ?_
  rintro e w7 ⟨⟨rb, rfl, hrb⟩, hb7⟩
  obtain rfl : rb = false := by
    cases rb with
    | false => rfl
    | true => exact absurd rfl (hrb.1 rfl).1
  have HE7 : Hid (Below w.heap.size w w7) := HE.out.trans (hb7.mono HE.out.size)
  clear hri hrb hb7
  go_wp2_with fail
  go_ret
  exact ⟨rfl, HE7.out⟩
end Go.Proofs.YtibimnibmengpaaDoor
