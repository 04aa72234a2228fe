/- What the reference's One makes of the document's memory at an entry of kind 2, 3. Conditions: counts and live cells are below 2 to the 61; generations are between 0 and 16384. -/
import Derived.Test.YthdcilbbllldiaaDoorStM
namespace Go.Proofs.YthdcilbbllldiaaDoor
open Go.RowKit Go.Op
set_option maxRecDepth 100000
section
variable {w : World} {rc cap : Nat} {m : M}
set_option maxHeartbeats 1000000 in
theorem refone_2 (hA : RAt w rc m) (hO : m.Ok 2305843009213693952) (z : Aq) (tl : Int) (ha : 0 ≤ z.act ∧ z.act ≤ 255) (hk : z.act % 7 = 2) :
    Calls Tryd.prog 14 #[m.rv rc cap, z.v, .int .i64 tl] w fun e w' => ROne w rc m z tl e w' := by
  obtain ⟨hT, hB⟩ := b3_first w (.slice (some ⟨rc, 0, none⟩) m.cells.length cap) m.count m.live m.stale z
  obtain ⟨w1, hw1⟩ : ∃ W, W = b3w w (.slice (some ⟨rc, 0, none⟩) m.cells.length cap) m.count m.live m.stale z := ⟨_, rfl⟩
  rw [← hw1] at hT hB
  have hA1 := hA.below hB hA.lt
  have HL := Lib.hid hA.lt
  have HT := Lib.hid hT
  have HB := Lib.hid hB
  have HW := Lib.hid hw1.symm
  clear hA hT hB hw1
  obtain ⟨act, pos, n, mm, told, skip⟩ := z
  simp only [Aq.v] at ha hk HT ⊢
  cases told
  · have eq : (⟨act, pos, n, mm, false, skip⟩ : Aq).q tl = .store pos n := by
      unfold Aq.q; simp only [Aq.h]; rw [if_neg (show ¬ act % 7 = 0 by omega), if_neg (show ¬ act % 7 = 1 by omega), if_pos hk]
      simp
    have er : ∀ a, (⟨act, pos, n, mm, false, skip⟩ : Aq).res tl a = (0, a.err, tl) := fun a => by
      unfold Aq.res; simp only; rw [if_neg (show ¬ act % 7 = 0 by omega), if_neg (show ¬ act % 7 = 1 by omega), if_pos hk]
    have e0 : (act % 7 == 0) = false := by rw [beq_eq_false_iff_ne]; omega
    have e1 : (act % 7 == 1) = false := by rw [beq_eq_false_iff_ne]; omega
    have e2 : (act % 7 == 2) = true := by rw [beq_iff_eq]; omega
    obtain ⟨sq, hw⟩ := refstore_any w1 rc cap m pos hA1 hO n
    obtain ⟨H3, hH3⟩ : ∃ H3, H3 = m.store pos n := ⟨_, rfl⟩
    have HQ : Hid ((⟨act, pos, n, mm, false, skip⟩ : Aq).q tl = .store pos n ∧ (∀ a, (⟨act, pos, n, mm, false, skip⟩ : Aq).res tl a = (0, a.err, tl)) ∧ m.store pos n = H3) := ⟨eq, er, hH3.symm⟩
    rw [← hH3] at hw
    obtain ⟨m4, er4⟩ := H3
    simp only at hw
    clear eq er hH3 hA1 hO hk
    obtain ⟨a0, a1, a2, a3, z0, z1, z2, z3, z4, q0, q1, q2, q3, fa, fq, sz⟩ := HT.out
    unfold M.rv at hw ⊢
    unfold b3w at HW
    simp only at HW
    go_enter Tryd.func14, Tryd.ntmps14
    go_wp2_with fail
    rw [HW.out]
    refine hw.mono ?_
    rintro e w4 ⟨c4, cap4, rfl, r4, b4, hc4⟩
    have T4 := Lib.hid (HT.out.below b4)
    have R4 := Lib.hid r4
    have HC : Hid (c4 = rc ∨ w.heap.size + 1 + 1 < c4) := by unfold Hid; omega
    have B4 := Lib.hid (HB.out.trans (b4.mono HB.out.size))
    clear hw r4 b4 hc4 a0 a1 a2 a3 z0 z1 z2 z3 z4 q0 q1 q2 q3 fa fq sz HT HW HB
    obtain ⟨a0, a1, a2, a3, z0, z1, z2, z3, z4, q0, q1, q2, q3, fa, fq, sz⟩ := T4.out
    unfold M.rv
    obtain ⟨w5, hw5⟩ : ∃ W, W = four w4 w.heap.size (.slice (some ⟨c4, 0, none⟩) m4.cells.length cap4) m4.count m4.live m4.stale := ⟨_, rfl⟩
    have P5 := Lib.hid (one_put T4.out B4.out cap4 R4.out (by have := HC.out; have := HL.out; omega) hw5)
    obtain ⟨b0, b1, b2, b3, y0, y1, y2, y3, y4, p0, p1, p2, p3, ga, gq, sy⟩ := P5.out.1
    unfold four at hw5
    have HW5 := Lib.hid hw5.symm
    clear hw5 z0 z1 z2 z3 z4 q0 q1 q2 q3 fq sz y0 y1 y2 y3 y4
    go_wp2_with (first | rw [HW5.out] | fail)
    obtain ⟨X, hX, g1, g2⟩ := one_done P5.out.1 P5.out.2.2 cap4 P5.out.2.1 HC.out HL.out (m := m) (tl := tl) (a := 0) (b := er4) (d := tl) (by rw [HQ.out.1, show (Qn.on (.store pos n) m).1 = (m.store pos n).1 from rfl, HQ.out.2.2]) (by rw [HQ.out.1, HQ.out.2.1, show (Qn.on (.store pos n) m).2 = ⟨.no, 0, false, (m.store pos n).2⟩ from rfl, HQ.out.2.2])
    unfold four at hX
    rw [← hX]
    exact bodyPost_ret (results_cell4 Tryd.results14 rfl rfl rfl rfl g1) rfl g2
  · have eq : (⟨act, pos, n, mm, true, skip⟩ : Aq).q tl = .store tl n := by
      unfold Aq.q; simp only [Aq.h]; rw [if_neg (show ¬ act % 7 = 0 by omega), if_neg (show ¬ act % 7 = 1 by omega), if_pos hk]
      simp
    have er : ∀ a, (⟨act, pos, n, mm, true, skip⟩ : Aq).res tl a = (0, a.err, tl) := fun a => by
      unfold Aq.res; simp only; rw [if_neg (show ¬ act % 7 = 0 by omega), if_neg (show ¬ act % 7 = 1 by omega), if_pos hk]
    have e0 : (act % 7 == 0) = false := by rw [beq_eq_false_iff_ne]; omega
    have e1 : (act % 7 == 1) = false := by rw [beq_eq_false_iff_ne]; omega
    have e2 : (act % 7 == 2) = true := by rw [beq_iff_eq]; omega
    obtain ⟨sq, hw⟩ := refstore_any w1 rc cap m tl hA1 hO n
    obtain ⟨H3, hH3⟩ : ∃ H3, H3 = m.store tl n := ⟨_, rfl⟩
    have HQ : Hid ((⟨act, pos, n, mm, true, skip⟩ : Aq).q tl = .store tl n ∧ (∀ a, (⟨act, pos, n, mm, true, skip⟩ : Aq).res tl a = (0, a.err, tl)) ∧ m.store tl n = H3) := ⟨eq, er, hH3.symm⟩
    rw [← hH3] at hw
    obtain ⟨m4, er4⟩ := H3
    simp only at hw
    clear eq er hH3 hA1 hO hk
    obtain ⟨a0, a1, a2, a3, z0, z1, z2, z3, z4, q0, q1, q2, q3, fa, fq, sz⟩ := HT.out
    unfold M.rv at hw ⊢
    unfold b3w at HW
    simp only at HW
    go_enter Tryd.func14, Tryd.ntmps14
    go_wp2_with fail
    rw [HW.out]
    refine hw.mono ?_
    rintro e w4 ⟨c4, cap4, rfl, r4, b4, hc4⟩
    have T4 := Lib.hid (HT.out.below b4)
    have R4 := Lib.hid r4
    have HC : Hid (c4 = rc ∨ w.heap.size + 1 + 1 < c4) := by unfold Hid; omega
    have B4 := Lib.hid (HB.out.trans (b4.mono HB.out.size))
    clear hw r4 b4 hc4 a0 a1 a2 a3 z0 z1 z2 z3 z4 q0 q1 q2 q3 fa fq sz HT HW HB
    obtain ⟨a0, a1, a2, a3, z0, z1, z2, z3, z4, q0, q1, q2, q3, fa, fq, sz⟩ := T4.out
    unfold M.rv
    obtain ⟨w5, hw5⟩ : ∃ W, W = four w4 w.heap.size (.slice (some ⟨c4, 0, none⟩) m4.cells.length cap4) m4.count m4.live m4.stale := ⟨_, rfl⟩
    have P5 := Lib.hid (one_put T4.out B4.out cap4 R4.out (by have := HC.out; have := HL.out; omega) hw5)
    obtain ⟨b0, b1, b2, b3, y0, y1, y2, y3, y4, p0, p1, p2, p3, ga, gq, sy⟩ := P5.out.1
    unfold four at hw5
    have HW5 := Lib.hid hw5.symm
    clear hw5 z0 z1 z2 z3 z4 q0 q1 q2 q3 fq sz y0 y1 y2 y3 y4
    go_wp2_with (first | rw [HW5.out] | fail)
    obtain ⟨X, hX, g1, g2⟩ := one_done P5.out.1 P5.out.2.2 cap4 P5.out.2.1 HC.out HL.out (m := m) (tl := tl) (a := 0) (b := er4) (d := tl) (by rw [HQ.out.1, show (Qn.on (.store tl n) m).1 = (m.store tl n).1 from rfl, HQ.out.2.2]) (by rw [HQ.out.1, HQ.out.2.1, show (Qn.on (.store tl n) m).2 = ⟨.no, 0, false, (m.store tl n).2⟩ from rfl, HQ.out.2.2])
    unfold four at hX
    rw [← hX]
    exact bodyPost_ret (results_cell4 Tryd.results14 rfl rfl rfl rfl g1) rfl g2
set_option maxHeartbeats 1000000 in
theorem refone_3 (hA : RAt w rc m) (hO : m.Ok 2305843009213693952) (z : Aq) (tl : Int) (ha : 0 ≤ z.act ∧ z.act ≤ 255) (hk : z.act % 7 = 3) :
    Calls Tryd.prog 14 #[m.rv rc cap, z.v, .int .i64 tl] w fun e w' => ROne w rc m z tl e w' := by
  obtain ⟨hT, hB⟩ := b3_first w (.slice (some ⟨rc, 0, none⟩) m.cells.length cap) m.count m.live m.stale z
  obtain ⟨w1, hw1⟩ : ∃ W, W = b3w w (.slice (some ⟨rc, 0, none⟩) m.cells.length cap) m.count m.live m.stale z := ⟨_, rfl⟩
  rw [← hw1] at hT hB
  have hA1 := hA.below hB hA.lt
  have HL := Lib.hid hA.lt
  have HT := Lib.hid hT
  have HB := Lib.hid hB
  have HW := Lib.hid hw1.symm
  clear hA hT hB hw1
  obtain ⟨act, pos, n, mm, told, skip⟩ := z
  simp only [Aq.v] at ha hk HT ⊢
  cases told
  · have eq : (⟨act, pos, n, mm, false, skip⟩ : Aq).q tl = .swap pos n mm := by
      unfold Aq.q; simp only [Aq.h]; rw [if_neg (show ¬ act % 7 = 0 by omega), if_neg (show ¬ act % 7 = 1 by omega), if_neg (show ¬ act % 7 = 2 by omega), if_pos hk]
      simp
    have er : ∀ a, (⟨act, pos, n, mm, false, skip⟩ : Aq).res tl a = (flg a.ok, a.err, tl) := fun a => by
      unfold Aq.res; simp only; rw [if_neg (show ¬ act % 7 = 0 by omega), if_neg (show ¬ act % 7 = 1 by omega), if_neg (show ¬ act % 7 = 2 by omega), if_pos hk]
    have e0 : (act % 7 == 0) = false := by rw [beq_eq_false_iff_ne]; omega
    have e1 : (act % 7 == 1) = false := by rw [beq_eq_false_iff_ne]; omega
    have e2 : (act % 7 == 2) = false := by rw [beq_eq_false_iff_ne]; omega
    have e3 : (act % 7 == 3) = true := by rw [beq_iff_eq]; omega
    have hw := refswap_any w1 rc cap m pos hA1 hO n mm
    obtain ⟨H3, hH3⟩ : ∃ H3, H3 = m.swap pos n mm := ⟨_, rfl⟩
    have HQ : Hid ((⟨act, pos, n, mm, false, skip⟩ : Aq).q tl = .swap pos n mm ∧ (∀ a, (⟨act, pos, n, mm, false, skip⟩ : Aq).res tl a = (flg a.ok, a.err, tl)) ∧ m.swap pos n mm = H3) := ⟨eq, er, hH3.symm⟩
    rw [← hH3] at hw
    obtain ⟨m4, ok4, er4⟩ := H3
    simp only at hw
    clear eq er hH3 hA1 hO hk
    obtain ⟨a0, a1, a2, a3, z0, z1, z2, z3, z4, q0, q1, q2, q3, fa, fq, sz⟩ := HT.out
    unfold M.rv at hw ⊢
    unfold b3w at HW
    simp only at HW
    go_enter Tryd.func14, Tryd.ntmps14
    go_wp2_with fail
    rw [HW.out]
    refine hw.mono ?_
    rintro e w4 ⟨c4, cap4, rfl, r4, b4, hc4⟩
    have T4 := Lib.hid (HT.out.below b4)
    have R4 := Lib.hid r4
    have HC : Hid (c4 = rc ∨ w.heap.size + 1 + 1 < c4) := by unfold Hid; omega
    have B4 := Lib.hid (HB.out.trans (b4.mono HB.out.size))
    clear hw r4 b4 hc4 a0 a1 a2 a3 z0 z1 z2 z3 z4 q0 q1 q2 q3 fa fq sz HT HW HB
    obtain ⟨a0, a1, a2, a3, z0, z1, z2, z3, z4, q0, q1, q2, q3, fa, fq, sz⟩ := T4.out
    unfold M.rv
    obtain ⟨w5, hw5⟩ : ∃ W, W = four w4 w.heap.size (.slice (some ⟨c4, 0, none⟩) m4.cells.length cap4) m4.count m4.live m4.stale := ⟨_, rfl⟩
    have P5 := Lib.hid (one_put T4.out B4.out cap4 R4.out (by have := HC.out; have := HL.out; omega) hw5)
    obtain ⟨b0, b1, b2, b3, y0, y1, y2, y3, y4, p0, p1, p2, p3, ga, gq, sy⟩ := P5.out.1
    unfold four at hw5
    have HW5 := Lib.hid hw5.symm
    clear hw5 z0 z1 z2 z3 z4 q0 q1 q2 q3 fq sz y0 y1 y2 y3 y4
    have hfl := fun w => flag37_any ok4 w
    go_wp2_with (first | rw [HW5.out] | fail)
    refine (hfl _).mono ?_
    rintro e w5 ⟨rfl, rfl⟩
    clear hfl
    go_wp2_with fail
    obtain ⟨X, hX, g1, g2⟩ := one_done P5.out.1 P5.out.2.2 cap4 P5.out.2.1 HC.out HL.out (m := m) (tl := tl) (a := flg ok4) (b := er4) (d := tl) (by rw [HQ.out.1, show (Qn.on (.swap pos n mm) m).1 = (m.swap pos n mm).1 from rfl, HQ.out.2.2]) (by rw [HQ.out.1, HQ.out.2.1, show (Qn.on (.swap pos n mm) m).2 = ⟨.no, 0, (m.swap pos n mm).2.1, (m.swap pos n mm).2.2⟩ from rfl, HQ.out.2.2])
    unfold four at hX
    rw [← hX]
    exact bodyPost_ret (results_cell4 Tryd.results14 rfl rfl rfl rfl g1) rfl g2
  · have eq : (⟨act, pos, n, mm, true, skip⟩ : Aq).q tl = .swap tl n mm := by
      unfold Aq.q; simp only [Aq.h]; rw [if_neg (show ¬ act % 7 = 0 by omega), if_neg (show ¬ act % 7 = 1 by omega), if_neg (show ¬ act % 7 = 2 by omega), if_pos hk]
      simp
    have er : ∀ a, (⟨act, pos, n, mm, true, skip⟩ : Aq).res tl a = (flg a.ok, a.err, tl) := fun a => by
      unfold Aq.res; simp only; rw [if_neg (show ¬ act % 7 = 0 by omega), if_neg (show ¬ act % 7 = 1 by omega), if_neg (show ¬ act % 7 = 2 by omega), if_pos hk]
    have e0 : (act % 7 == 0) = false := by rw [beq_eq_false_iff_ne]; omega
    have e1 : (act % 7 == 1) = false := by rw [beq_eq_false_iff_ne]; omega
    have e2 : (act % 7 == 2) = false := by rw [beq_eq_false_iff_ne]; omega
    have e3 : (act % 7 == 3) = true := by rw [beq_iff_eq]; omega
    have hw := refswap_any w1 rc cap m tl hA1 hO n mm
    obtain ⟨H3, hH3⟩ : ∃ H3, H3 = m.swap tl n mm := ⟨_, rfl⟩
    have HQ : Hid ((⟨act, pos, n, mm, true, skip⟩ : Aq).q tl = .swap tl n mm ∧ (∀ a, (⟨act, pos, n, mm, true, skip⟩ : Aq).res tl a = (flg a.ok, a.err, tl)) ∧ m.swap tl n mm = H3) := ⟨eq, er, hH3.symm⟩
    rw [← hH3] at hw
    obtain ⟨m4, ok4, er4⟩ := H3
    simp only at hw
    clear eq er hH3 hA1 hO hk
    obtain ⟨a0, a1, a2, a3, z0, z1, z2, z3, z4, q0, q1, q2, q3, fa, fq, sz⟩ := HT.out
    unfold M.rv at hw ⊢
    unfold b3w at HW
    simp only at HW
    go_enter Tryd.func14, Tryd.ntmps14
    go_wp2_with fail
    rw [HW.out]
    refine hw.mono ?_
    rintro e w4 ⟨c4, cap4, rfl, r4, b4, hc4⟩
    have T4 := Lib.hid (HT.out.below b4)
    have R4 := Lib.hid r4
    have HC : Hid (c4 = rc ∨ w.heap.size + 1 + 1 < c4) := by unfold Hid; omega
    have B4 := Lib.hid (HB.out.trans (b4.mono HB.out.size))
    clear hw r4 b4 hc4 a0 a1 a2 a3 z0 z1 z2 z3 z4 q0 q1 q2 q3 fa fq sz HT HW HB
    obtain ⟨a0, a1, a2, a3, z0, z1, z2, z3, z4, q0, q1, q2, q3, fa, fq, sz⟩ := T4.out
    unfold M.rv
    obtain ⟨w5, hw5⟩ : ∃ W, W = four w4 w.heap.size (.slice (some ⟨c4, 0, none⟩) m4.cells.length cap4) m4.count m4.live m4.stale := ⟨_, rfl⟩
    have P5 := Lib.hid (one_put T4.out B4.out cap4 R4.out (by have := HC.out; have := HL.out; omega) hw5)
    obtain ⟨b0, b1, b2, b3, y0, y1, y2, y3, y4, p0, p1, p2, p3, ga, gq, sy⟩ := P5.out.1
    unfold four at hw5
    have HW5 := Lib.hid hw5.symm
    clear hw5 z0 z1 z2 z3 z4 q0 q1 q2 q3 fq sz y0 y1 y2 y3 y4
    have hfl := fun w => flag37_any ok4 w
    go_wp2_with (first | rw [HW5.out] | fail)
    refine (hfl _).mono ?_
    rintro e w5 ⟨rfl, rfl⟩
    clear hfl
    go_wp2_with fail
    obtain ⟨X, hX, g1, g2⟩ := one_done P5.out.1 P5.out.2.2 cap4 P5.out.2.1 HC.out HL.out (m := m) (tl := tl) (a := flg ok4) (b := er4) (d := tl) (by rw [HQ.out.1, show (Qn.on (.swap tl n mm) m).1 = (m.swap tl n mm).1 from rfl, HQ.out.2.2]) (by rw [HQ.out.1, HQ.out.2.1, show (Qn.on (.swap tl n mm) m).2 = ⟨.no, 0, (m.swap tl n mm).2.1, (m.swap tl n mm).2.2⟩ from rfl, HQ.out.2.2])
    unfold four at hX
    rw [← hX]
    exact bodyPost_ret (results_cell4 Tryd.results14 rfl rfl rfl rfl g1) rfl g2
end
end Go.Proofs.YthdcilbbllldiaaDoor
