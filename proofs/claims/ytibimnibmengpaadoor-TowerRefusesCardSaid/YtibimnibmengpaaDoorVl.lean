/- For any keys, heights, place and level rundlelaw17.TowerLeads returns true. Condition: the library's table stands. -/
import Derived.Test.YtibimnibmengpaaDoorVd
namespace Go.Proofs.YtibimnibmengpaaDoor
open Go.RowKit Go.Op
set_option maxRecDepth 100000

theorem wf64' {n : Int} (h : (Lit.int .i64 n).wf = true) : -9223372036854775808 ≤ n ∧ n ≤ 9223372036854775807 := by
  simp [Lit.wf, IntKind.min, IntKind.max, IntKind.signed, IntKind.bits] at h
  exact ⟨by omega, by omega⟩
set_option maxHeartbeats 8000000 in
theorem leadsLaw (w : World) (hT : TabAt w) (a1 : Option Addr) (ks : List ByteArray) (cap1 : Nat) (hks : KArg w (.slice a1 ks.length cap1) ks) (hkl : ks.length ≤ 9223372036854775807) (a2 : Option Addr) (us : List Nat) (cap2 : Nat) (hus : UArg w a2 us) (hul : us.length ≤ 9223372036854775807)
    (at_ : Int) (hat : (Lit.int .i64 at_).wf = true) (lv : Int) (hlv : (Lit.int .i64 lv).wf = true) :
    Calls Tryd.prog 5 #[.slice a1 ks.length cap1, .slice a2 us.length cap2, .int .i64 at_, .int .i64 lv] w fun e w' => e = .returned (.bool true) ∧ Below w.heap.size w w' := by
  obtain ⟨wx, hwx⟩ : ∃ W, W = w.alloc (.cells #[.int .i64 at_] 3) := ⟨_, rfl⟩
  obtain ⟨wa, hwa⟩ : ∃ W, W = wx.alloc (.cells #[.int .i64 lv] 3) := ⟨_, rfl⟩
  have hzx : wx.heap.size = w.heap.size + 1 := by rw [hwx]; simp
  have hza : wa.heap.size = w.heap.size + 2 := by rw [hwa]; simp [hzx]
  have hbx : Below w.heap.size w wx := by rw [hwx]; exact (Below.refl _ _).alloc (Nat.le_refl _) _
  have hbxa : Below wx.heap.size wx wa := by rw [hwa]; exact (Below.refl _ _).alloc (Nat.le_refl _) _
  have hba : Below w.heap.size w wa := hbx.trans (hbxa.mono (by omega))
  have sa : SVar wa w.heap.size [.int .i64 at_] := by
    have : SVar wx w.heap.size [.int .i64 at_] := by rw [hwx]; exact snew _ _ _
    exact this.later hbxa
  have sl : SVar wa (w.heap.size + 1) [.int .i64 lv] := by
    have := snew wx [.int .i64 lv] 3
    rw [hzx] at this
    rw [hwa]; exact this
  have haw := awake_any wa (hT.below hba)
  have HW : Hid ((w.alloc (.cells #[.int .i64 at_] 3)).alloc (.cells #[.int .i64 lv] 3) = wa) := by
    show _ = _
    rw [← hwx]; exact hwa.symm
  have HA := Lib.hid (⟨hza, hba, sa, sl, hT, hks, hus, hul, hkl⟩ : _ ∧ _ ∧ _ ∧ _ ∧ _ ∧ _ ∧ _ ∧ _ ∧ _)
  have Hwf := Lib.hid (⟨wf64' hat, wf64' hlv⟩ : _ ∧ _)
  clear hzx hza hbx hbxa hba hwa hwx hT hks hus hul hkl sa sl hat hlv
  go_enter Tryd.func5, Tryd.ntmps5
  go_wp2_with (first | rw [HW.out] | fail)
  refine haw.mono ?_
  rintro e w1 ⟨rfl, hb1⟩
  obtain ⟨hza, hba, sa, sl, hT, hks, hus, hul, hkl⟩ := HA.out
  have hs1 := hb1.size
  have hbw1 : Below w.heap.size w w1 := hba.trans (hb1.mono (by omega))
  have haw1 := awake_any w1 (hT.below hbw1)
  obtain ⟨a1', cap1', e1, hsr⟩ := (hks.later hbw1).val
  obtain ⟨rfl, -, rfl⟩ := Value.slice.inj e1
  have hlong := long_any w1 a1 cap1 ks (by omega) hsr
  have hlay := lay_any w1 (hT.below hbw1) (.slice a1 ks.length cap1) a2 cap2 ks us
  have HB1 := Lib.hid (⟨hbw1, sa.later hb1, sl.later hb1, hks.later hbw1, hus.later hbw1, hul⟩ : _ ∧ _ ∧ _ ∧ _ ∧ _ ∧ _)
  clear haw hb1 hza hba hT hks hus hul hs1 hbw1 hsr e1 hkl HW sa sl
  go_wp2_with fail
  refine hlong.mono ?_
  rintro e w1' ⟨⟨rb, rfl, hrb⟩, rfl⟩
  cases rb with
  | true =>
    clear hrb hlay hlong
    go_wp2_with fail
    refine haw1.mono ?_
    rintro e w2 ⟨rfl, hb2⟩
    have HE : Hid (Below w.heap.size w w2) := HB1.out.1.trans (hb2.mono HB1.out.1.size)
    clear haw1 hb2
    go_wp2_with fail
    go_ret
    exact ⟨rfl, HE.out⟩
  | false =>
  have hk40 := hrb rfl
  have hlay := hlay hk40 HB1.out.2.2.2.1 HB1.out.2.2.2.2.1 HB1.out.2.2.2.2.2
  have HK := Lib.hid hk40
  clear hrb hlong haw1
  go_wp2_with fail
  refine hlay.mono ?_
  rintro e w2 ⟨⟨b, c, r, G, m, y, l, rfl, hY⟩, hb2⟩
  obtain ⟨w3, hw3⟩ : ∃ W, W = w2.alloc (.cells y.row.toArray 29) := ⟨_, rfl⟩
  have hb3 : Below w2.heap.size w2 w3 := by rw [hw3]; exact (Below.refl _ _).alloc (Nat.le_refl _) _
  obtain ⟨gl, ol, cl, gt, ot, ct, gh, oh, ch, ey, hyw⟩ := hY.yw (W := w3) HK.out hb3 (by rw [hw3]; exact hY.has.fresh (.cells y.row.toArray 29)) (by rw [hw3]; exact snew _ _ _)
  obtain ⟨n, hn⟩ : ∃ n, n = (lowsOf ks).length := ⟨_, rfl⟩
  rw [← hn] at ey
  subst ey
  have HW3 := Lib.hid hw3.symm
  rw [← hn] at hyw
  have hbw3 : Below w1.heap.size w1 w3 := hb2.trans (hb3.mono hb2.size)
  have hgeo := hyw.has.ge
  have hwlt : w.heap.size + 1 < w1.heap.size := HB1.out.2.2.1.lt
  have hdo := do_any w3 b 24 #[.pointer (some ⟨w2.heap.size, 0, none⟩), .pointer (some ⟨w.heap.size, 0, none⟩), .pointer (some ⟨w.heap.size + 1, 0, none⟩)] _ he24
    (leads1_any hyw at_ lv Hwf.out.1 Hwf.out.2 (HB1.out.2.1.later hbw3) (HB1.out.2.2.1.later hbw3) (by simp only [List.mem_cons, List.not_mem_nil, or_false]; omega) (by simp only [List.mem_cons, List.not_mem_nil, or_false]; omega))
  have c0 := hyw.var.cell (i := 0) rfl
  have ay := as4_yes
  have HE5 := Lib.hid (⟨HB1.out.1.trans (hbw3.mono (by omega)), hgeo, hwlt⟩ : _ ∧ _ ∧ _)
  unfold Yr.v
  simp only [Yr.row] at HW3
  clear hlay hY hb2 hw3 hb3 hyw hbw3 hn hgeo hwlt
  go_wp2_with (first | rw [HW3.out] | fail)
  refine hdo.mono ?_
  rintro e w6 ⟨u1, rfl, rfl, hbn⟩
  have HE : Hid (Below w.heap.size w w6) := by
    obtain ⟨h1, h2, h3⟩ := HE5.out
    have := h1.size
    exact h1.trans ⟨hbn.os, hbn.tape, hbn.output, hbn.size, fun k hk => hbn.block k (by omega) (by simp only [List.mem_cons, List.not_mem_nil, or_false]; omega)⟩
  clear hdo hbn c0
  go_wp2_with fail
  go_ret
  exact ⟨rfl, HE.out⟩
end Go.Proofs.YtibimnibmengpaaDoor
