/- For any keys, heights and place rundlelaw17.TowerWalks returns true. Condition: the library's table stands. -/
import Derived.Test.YtibimnibmengpaaDoorVf
namespace Go.Proofs.YtibimnibmengpaaDoor
open Go.RowKit Go.Op
set_option maxRecDepth 100000

set_option maxHeartbeats 8000000 in
theorem walksLaw (w : World) (hT : TabAt w) (a1 : Option Addr) (ks : List ByteArray) (cap1 : Nat) (hks : KArg w (.slice a1 ks.length cap1) ks) (hkl : ks.length ≤ 9223372036854775807) (a2 : Option Addr) (us : List Nat) (cap2 : Nat) (hus : UArg w a2 us) (hul : us.length ≤ 9223372036854775807)
    (v1 : Int) (hv1 : (Lit.int .u8 v1).wf = true) :
    Calls Tryd.prog 4 #[.slice a1 ks.length cap1, .slice a2 us.length cap2, .int .u8 v1] w fun e w' => e = .returned (.bool true) ∧ Below w.heap.size w w' := by
  obtain ⟨u, rfl, hu⟩ : ∃ u : Nat, v1 = (u : Int) ∧ u ≤ 255 := by
    have h := hv1
    simp [Lit.wf, IntKind.min, IntKind.max, IntKind.signed, IntKind.bits] at h
    exact ⟨v1.toNat, by omega, by omega⟩
  obtain ⟨wa, hwa⟩ : ∃ W, W = w.alloc (.cells #[.int .u8 (u : Int)] 5) := ⟨_, rfl⟩
  have hza : wa.heap.size = w.heap.size + 1 := by rw [hwa]; simp
  have hba : Below w.heap.size w wa := by rw [hwa]; exact (Below.refl _ _).alloc (Nat.le_refl _) _
  have sa : SVar wa w.heap.size [.int .u8 (u : Int)] := by rw [hwa]; exact snew _ _ _
  have haw := awake_any wa (hT.below hba)
  have HW := Lib.hid hwa.symm
  have HA := Lib.hid (⟨hza, hba, sa, hT, hks, hus, hul, hkl⟩ : _ ∧ _ ∧ _ ∧ _ ∧ _ ∧ _ ∧ _ ∧ _)
  have Hwf := Lib.hid hu
  clear hza hba hwa hT hks hus hul hkl sa hv1 hu
  go_enter Tryd.func4, Tryd.ntmps4
  go_wp2_with (first | rw [HW.out] | fail)
  refine haw.mono ?_
  rintro e w1 ⟨rfl, hb1⟩
  obtain ⟨hza, hba, sa, hT, hks, hus, hul, hkl⟩ := HA.out
  have hs1 := hb1.size
  have hbw1 : Below w.heap.size w w1 := hba.trans (hb1.mono (by omega))
  have haw1 := awake_any w1 (hT.below hbw1)
  obtain ⟨a1', cap1', e1, hsr⟩ := (hks.later hbw1).val
  obtain ⟨rfl, -, rfl⟩ := Value.slice.inj e1
  have hlong := long_any w1 a1 cap1 ks (by omega) hsr
  have hlay := lay_any w1 (hT.below hbw1) (.slice a1 ks.length cap1) a2 cap2 ks us
  have HB1 := Lib.hid (⟨hbw1, sa.later hb1, hks.later hbw1, hus.later hbw1, hul⟩ : _ ∧ _ ∧ _ ∧ _ ∧ _)
  clear haw hb1 hza hba hT hks hus hul hs1 hbw1 hsr e1 hkl HW sa
  go_wp2_with fail
  refine hlong.mono ?_
  rintro e w1' ⟨⟨rb, rfl, hrb⟩, rfl⟩
  cases rb with
  | true =>
    clear hrb hlay hlong
    go_wp2_with fail
    refine haw1.mono ?_
    rintro e w2 ⟨rfl, hb2⟩
    have HE : Hid (Below w.heap.size w w2) := HB1.out.1.trans (hb2.mono HB1.out.1.size)
    clear haw1 hb2
    go_wp2_with fail
    go_ret
    exact ⟨rfl, HE.out⟩
  | false =>
  have hk40 := hrb rfl
  have hlay := hlay hk40 HB1.out.2.2.1 HB1.out.2.2.2.1 HB1.out.2.2.2.2
  have HK := Lib.hid hk40
  clear hrb hlong haw1
  go_wp2_with fail
  refine hlay.mono ?_
  rintro e w2 ⟨⟨b, c, r, G, m, y, l, rfl, hY⟩, hb2⟩
  obtain ⟨w3, hw3⟩ : ∃ W, W = w2.alloc (.cells y.row.toArray 29) := ⟨_, rfl⟩
  have hb3 : Below w2.heap.size w2 w3 := by rw [hw3]; exact (Below.refl _ _).alloc (Nat.le_refl _) _
  obtain ⟨gl, ol, cl, gt, ot, ct, gh, oh, ch, ey, hyw⟩ := hY.yw (W := w3) HK.out hb3 (by rw [hw3]; exact hY.has.fresh (.cells y.row.toArray 29)) (by rw [hw3]; exact snew _ _ _)
  obtain ⟨n, hn⟩ : ∃ n, n = (lowsOf ks).length := ⟨_, rfl⟩
  rw [← hn] at ey
  subst ey
  have HW3 := Lib.hid hw3.symm
  rw [← hn] at hyw
  have hbw3 : Below w1.heap.size w1 w3 := hb2.trans (hb3.mono hb2.size)
  have hgeo := hyw.has.ge
  have hwlt : w.heap.size < w1.heap.size := HB1.out.2.1.lt
  have hdo := do_any w3 b 18 #[.pointer (some ⟨w2.heap.size, 0, none⟩), .pointer (some ⟨w.heap.size, 0, none⟩)] _ he18
    (walks1_any hyw u Hwf.out (HB1.out.2.1.later hbw3) (by simp only [List.mem_cons, List.not_mem_nil, or_false]; omega))
  have c0 := hyw.var.cell (i := 0) rfl
  have ay := as4_yes
  have HE5 := Lib.hid (⟨HB1.out.1.trans (hbw3.mono (by omega)), hgeo, hwlt⟩ : _ ∧ _ ∧ _)
  unfold Yr.v
  simp only [Yr.row] at HW3
  clear hlay hY hb2 hw3 hb3 hyw hbw3 hn hgeo hwlt
  go_wp2_with (first | rw [HW3.out] | fail)
  refine hdo.mono ?_
  rintro e w6 ⟨u1, rfl, rfl, hbn⟩
  have HE : Hid (Below w.heap.size w w6) := by
    obtain ⟨h1, h2, h3⟩ := HE5.out
    have := h1.size
    exact h1.trans ⟨hbn.os, hbn.tape, hbn.output, hbn.size, fun k hk => hbn.block k (by omega) (by simp only [List.mem_cons, List.not_mem_nil, or_false]; omega)⟩
  clear hdo hbn c0
  go_wp2_with fail
  go_ret
  exact ⟨rfl, HE.out⟩
end Go.Proofs.YtibimnibmengpaaDoor
