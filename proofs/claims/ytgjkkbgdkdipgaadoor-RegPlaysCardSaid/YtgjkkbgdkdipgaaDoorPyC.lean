/- One act of RegPlays, by the program and by the reference: Open, Find, Close. Conditions: at most 600000 asks; generations are small; the act is none of versions. -/
import Derived.Test.YtgjkkbgdkdipgaaDoorPyB
namespace Go.Proofs.YtgjkkbgdkdipgaaDoor
open Go.RowKit Go.Op
set_option maxRecDepth 100000

set_option maxHeartbeats 4000000 in
theorem act_4a {w0 wd w : World} {b c r : Nat} {G : List (Nat × List Sw)} {m : M} {R : Rg} {S P A : List Int} {B : List (Int × Int)} {g V id : Int} {x : Rs} {act : Ac} {K : Nat → Prop} (he : HasE w0 b c r G wd m) (hr : RM g m R.top S P V A B) (hg : g ≤ 15000) (hc : m.count ≤ 600000) (hrg : RgL w0 b c r G wd R S P) (hin : DIn w0 b c r G wd w R act id x V A.length B.length) (hx : RIs (fun z => LocM w0 b c r G wd z ∧ K z) wd x A B) (hV : 0 ≤ V ∧ V ≤ 1000000) (_hid : id < 9223372036854775808) (ha : act.act % 7 = 4) (hac : 0 ≤ act.act ∧ act.act ≤ 255) (hop : isV act.m = false ∨ openI 0 B = none) :
    Calls Tryd.prog 50 (#[.pointer (some ⟨w.heap.size, 0, none⟩)] ++ #[.pointer (some ⟨wd.heap.size + 2, 0, none⟩), .pointer (some ⟨wd.heap.size, 0, none⟩), .pointer (some ⟨wd.heap.size + 1, 0, none⟩), .pointer (some ⟨wd.heap.size + 5, 0, none⟩), .pointer (some ⟨wd.heap.size + 3, 0, none⟩)]) (w.alloc (portObj b)) fun e w' => ∃ u, e = .returned u ∧ u = .iface 4 (.bool true) ∧ POut K w0 b c r G w wd.heap.size R.top S P (g + 1) V (m.count + 410) w' := by
  have hM := PMid.start hin he hr hx
  have HK := Lib.hid (fun (t1 : Value) (G1 : List (Nat × List Sw)) (w1 : World) (m1 : M) (s1 : Pt) (hd : Dgo w0 b c r w.heap.size [b, c, r, wd.heap.size + 1, wd.heap.size + 5] w t1 G G1 w1 m1 s1) => hin.read he hrg rfl hd)
  have HL : Hid (A.length ≤ 64 ∧ B.length ≤ 64 ∧ A.length = S.length ∧ B.length = P.length ∧ V ≤ 1000000 ∧ 0 ≤ V ∧ g ≤ 15000 ∧ m.count ≤ 600000 ∧ ∀ y ∈ B, 0 ≤ y.1 ∧ y.1 ≤ 100000) := ⟨by rw [hr.al]; exact hr.sf, by rw [hr.bl]; exact hr.pf, hr.al, hr.bl, hV.2, hV.1, hg, hc, fun y hy => by have := hr.bv y hy; omega⟩
  obtain ⟨na, hna⟩ : ∃ n, A.length = n := ⟨_, rfl⟩
  obtain ⟨nb, hnb⟩ : ∃ n, B.length = n := ⟨_, rfl⟩
  have HNa := Lib.hid (⟨hna, hnb⟩ : _ ∧ _)
  have hac1 := hac.1
  have hac2 := hac.2
  have HV := Lib.hid hV
  have hmk := mkb4
  obtain ⟨er, m1, e1, hr1, n1, hne, hC⟩ := open_no hr (by omega) act.m hop
  have HGo : Hid ((openP act.m P).go m = ((0, er), m1) ∧ RM (g + 1) m1 R.top S P V A B ∧ m1.count ≤ m.count + 130) := ⟨e1, hr1.more (by omega), by omega⟩
  have HLen : Hid (A.length = na ∧ B.length = nb) := HNa
  have HC := Lib.hid hC
  have h1 := open_E hM.dgo.sys (by omega) (HK.out _ _ _ _ _ hM.dgo).2.1 act.m
  obtain ⟨⟨y0, y1, y2, y3, -⟩, -, ⟨a0, a1, a2, a3, a4⟩, ci⟩ := HK.out _ _ _ _ _ hM.dgo
  simp only [Nat.zero_add] at a0 a1 a2 a3 a4
  have HM := Lib.hid hM
  show Calls Tryd.prog 50 #[.pointer (some ⟨w.heap.size, 0, none⟩), .pointer (some ⟨wd.heap.size + 2, 0, none⟩), .pointer (some ⟨wd.heap.size, 0, none⟩), .pointer (some ⟨wd.heap.size + 1, 0, none⟩), .pointer (some ⟨wd.heap.size + 5, 0, none⟩), .pointer (some ⟨wd.heap.size + 3, 0, none⟩)] (w.alloc (portObj b)) _
  unfold Rg.v at h1
  clear he hr hg hc hrg hin hx hV hM hac hna hnb e1 hr1 n1 hop hC
  generalize hwp : w.alloc (portObj b) = wp at *
  generalize hnd : wd.heap.size = nd at *
  clear hwp hnd
  go_enter Tryd.func50, Tryd.ntmps50
  go_wp2_with fail
  refine h1.mono ?_
  rintro e w1 hE
  obtain ⟨rfl, t1, G1, hM1⟩ := HM.out.op2 hE HGo.out.1 HGo.out.2.1 HGo.out.2.2
  obtain ⟨⟨y0', y1', y2', y3', -⟩, -, ⟨a0', a1', a2', a3', a4'⟩, ci'⟩ := HK.out _ _ _ _ _ hM1.dgo
  simp only [Nat.zero_add] at a0' a1' a2' a3' a4'
  obtain ⟨x0, x1, x2, xz⟩ := hM1.bx
  rw [HNa.out.1] at x1
  rw [HNa.out.2] at x2
  have to0 := hM1.to
  have toz := hM1.fz
  have HM1 := Lib.hid hM1
  clear h1 hE y0 y1 y2 y3 a0 a1 a2 a3 a4 ci HM hM1
  have h2 := refopen_any w1 x V A B HM1.out.is HL.out.2.1 HL.out.2.2.2.2.2.2.2.2 act.m
  unfold Rs.v at h2
  rw [HNa.out.1, HNa.out.2] at h2
  go_wp2_with fail
  refine h2.mono ?_
  rintro e w2 hcr
  obtain ⟨rfl, hn⟩ := HC.out _ _ _ _ _ hcr
  clear hcr
  unfold Rs.v
  rw [HNa.out.1, HNa.out.2]
  obtain ⟨x', hx'⟩ : ∃ x', x' = x := ⟨_, rfl⟩
  rw [← hx'] at hn ⊢
  clear hx'
  obtain ⟨⟨x0', x1', x2', xz'⟩, hM3⟩ := HM1.out.ref hn ⟨HLen.out.1.trans HNa.out.1.symm, HLen.out.2.trans HNa.out.2.symm⟩
  rw [HNa.out.1, HNa.out.2] at hM3
  rw [HNa.out.1] at x1'
  rw [HNa.out.2] at x2'
  have to0' := (HM1.out.later hn.2).to
  have toz' := (HM1.out.later hn.2).fz
  clear h2 hn x0 x1 x2 xz y0' y1' y2' y3' a0' a1' a2' a3' a4' ci' to0 toz
  have HW3 : Hid (∃ W, W = put3 w2 (nd + 1) V (.slice x'.sa na x'.sc) (.slice x'.pa nb x'.pc)) := ⟨_, rfl⟩
  obtain ⟨w3, hw3⟩ := HW3.out
  rw [← hw3] at hM3
  unfold put3 at hw3
  replace HW3 := Lib.hid hw3.symm
  clear hw3
  obtain ⟨⟨y0, y1, y2, y3, -⟩, -, ⟨a0, a1, a2, a3, a4⟩, ci⟩ := HK.out _ _ _ _ _ hM3.dgo
  simp only [Nat.zero_add] at a0 a1 a2 a3 a4
  obtain ⟨x0, x1, x2, xz⟩ := hM3.bx
  rw [HLen.out.1] at x1
  rw [HLen.out.2] at x2
  have to0 := hM3.to
  have toz := hM3.fz
  obtain ⟨m4, e4, hr4, n4, -⟩ := hM3.rm.least (by have := HL.out; omega) act.pos
  obtain ⟨m5, e5, hr5, n5, -⟩ := hr4.oldest act.pos
  have h4 := least_E hM3.dgo.sys (by have := hM3.cnt; have := HL.out; omega) (HK.out _ _ _ _ _ hM3.dgo).2.1 act.pos
  unfold Rg.v at h4
  have H4 := Lib.hid (⟨e4, hr4, n4, e5, hr5, n5⟩ : _ ∧ _ ∧ _ ∧ _ ∧ _ ∧ _)
  have HM3 := Lib.hid hM3
  clear hM3 e4 hr4 n4 e5 hr5 n5
  go_wp2_with (first | rw [HW3.out] | fail)
  refine h4.mono ?_
  rintro e w4 hE
  obtain ⟨rfl, t4, G4, hM4⟩ := HM3.out.op2 hE H4.out.1 H4.out.2.1 (q' := m.count + 340) (by have := H4.out.2.2.1; have := HM3.out.cnt; omega)
  have h5 := oldest_E hM4.dgo.sys (by have := hM4.cnt; have := HL.out; omega) (HK.out _ _ _ _ _ hM4.dgo).2.1 act.pos
  unfold Rg.v at h5
  obtain ⟨⟨z0, z1, z2, z3, -⟩, -, ⟨k0, k1, k2, k3, k4⟩, -⟩ := HK.out _ _ _ _ _ hM4.dgo
  simp only [Nat.zero_add] at k0 k1 k2 k3 k4
  have HM4 := Lib.hid hM4
  clear h4 hE hM4 HM3 y0 y1 y2 y3 a0 a1 a2 a3 a4 ci x0 x1 x2 xz to0 toz
  go_wp2_with fail
  refine h5.mono ?_
  rintro e w5 hE
  obtain ⟨rfl, t5, G5, hM5⟩ := HM4.out.op2 hE H4.out.2.2.2.1 H4.out.2.2.2.2.1 (q' := m.count + 410) (by have := H4.out.2.2.2.2.2; have := H4.out.2.2.1; have := HM4.out.cnt; omega)
  obtain ⟨⟨z0', z1', z2', z3', -⟩, -, ⟨k0', k1', k2', k3', k4'⟩, -⟩ := HK.out _ _ _ _ _ hM5.dgo
  simp only [Nat.zero_add] at k0' k1' k2' k3' k4'
  obtain ⟨x0, x1, x2, xz⟩ := hM5.bx
  have h6 := refleast_any w5 _ V _ _ hM5.is (by rw [HLen.out.1, ← HNa.out.1]; exact HL.out.1) (by rw [HLen.out.2, ← HNa.out.2]; exact HL.out.2.1) act.pos
  unfold Rs.v at h6
  rw [HLen.out.1] at x1
  rw [HLen.out.2] at x2
  rw [HLen.out.1, HLen.out.2] at h6
  have HM5 := Lib.hid hM5
  clear h5 hE hM5 HM4 z0 z1 z2 z3 k0 k1 k2 k3 k4 H4
  go_wp2_with fail
  refine h6.mono ?_
  rintro e w6 ⟨rfl, hb6⟩
  have hM6 := HM5.out.later hb6
  obtain ⟨⟨z0, z1, z2, z3, -⟩, -, ⟨k0, k1, k2, k3, k4⟩, -⟩ := HK.out _ _ _ _ _ hM6.dgo
  simp only [Nat.zero_add] at k0 k1 k2 k3 k4
  have h7 := refoldest_any w6 _ V _ _ hM6.is (by rw [HLen.out.1, ← HNa.out.1]; exact HL.out.1) act.pos
  unfold Rs.v at h7
  clear x0 x1 x2 xz
  obtain ⟨x0, x1, x2, xz⟩ := hM6.bx
  rw [HLen.out.1] at x1
  rw [HLen.out.2] at x2
  rw [HLen.out.1, HLen.out.2] at h7
  have HM6 := Lib.hid hM6
  clear h6 hb6 hM6 HM5 z0' z1' z2' z3' k0' k1' k2' k3' k4'
  go_wp2_with fail
  refine h7.mono ?_
  rintro e w7 ⟨rfl, hb7⟩
  have HE := Lib.hid ((HM6.out.later hb7).out (by decide) (by decide))
  clear h7 hb7 HM6 z0 z1 z2 z3 k0 k1 k2 k3 k4 x0 x1 x2 xz
  go_wp2
  go_ret
  exact ⟨_, rfl, rfl, HE.out⟩
set_option maxHeartbeats 4000000 in
theorem act_4b {w0 wd w : World} {b c r : Nat} {G : List (Nat × List Sw)} {m : M} {R : Rg} {S P A : List Int} {B : List (Int × Int)} {g V id : Int} {x : Rs} {act : Ac} {K : Nat → Prop} (he : HasE w0 b c r G wd m) (hr : RM g m R.top S P V A B) (hg : g ≤ 15000) (hc : m.count ≤ 600000) (hrg : RgL w0 b c r G wd R S P) (hin : DIn w0 b c r G wd w R act id x V A.length B.length) (hx : RIs (fun z => LocM w0 b c r G wd z ∧ K z) wd x A B) (hV : 0 ≤ V ∧ V ≤ 1000000) (_hid : id < 9223372036854775808) (ha : act.act % 7 = 4) (hac : 0 ≤ act.act ∧ act.act ≤ 255) {kf : Nat} (hiv : isV act.m = true) (hop : openI 0 B = some kf) :
    Calls Tryd.prog 50 (#[.pointer (some ⟨w.heap.size, 0, none⟩)] ++ #[.pointer (some ⟨wd.heap.size + 2, 0, none⟩), .pointer (some ⟨wd.heap.size, 0, none⟩), .pointer (some ⟨wd.heap.size + 1, 0, none⟩), .pointer (some ⟨wd.heap.size + 5, 0, none⟩), .pointer (some ⟨wd.heap.size + 3, 0, none⟩)]) (w.alloc (portObj b)) fun e w' => ∃ u, e = .returned u ∧ u = .iface 4 (.bool true) ∧ POut K w0 b c r G w wd.heap.size R.top S P (g + 1) V (m.count + 410) w' := by
  have hM := PMid.start hin he hr hx
  have HK := Lib.hid (fun (t1 : Value) (G1 : List (Nat × List Sw)) (w1 : World) (m1 : M) (s1 : Pt) (hd : Dgo w0 b c r w.heap.size [b, c, r, wd.heap.size + 1, wd.heap.size + 5] w t1 G G1 w1 m1 s1) => hin.read he hrg rfl hd)
  have HL : Hid (A.length ≤ 64 ∧ B.length ≤ 64 ∧ A.length = S.length ∧ B.length = P.length ∧ V ≤ 1000000 ∧ 0 ≤ V ∧ g ≤ 15000 ∧ m.count ≤ 600000 ∧ ∀ y ∈ B, 0 ≤ y.1 ∧ y.1 ≤ 100000) := ⟨by rw [hr.al]; exact hr.sf, by rw [hr.bl]; exact hr.pf, hr.al, hr.bl, hV.2, hV.1, hg, hc, fun y hy => by have := hr.bv y hy; omega⟩
  obtain ⟨na, hna⟩ : ∃ n, A.length = n := ⟨_, rfl⟩
  obtain ⟨nb, hnb⟩ : ∃ n, B.length = n := ⟨_, rfl⟩
  have HNa := Lib.hid (⟨hna, hnb⟩ : _ ∧ _)
  have hac1 := hac.1
  have hac2 := hac.2
  have HV := Lib.hid hV
  have hmk := mkb4
  obtain ⟨idn, B2, m1, e1, hr1, n1, hl2, i0, i9, hC⟩ := open_yes hr (by omega) act.m kf hiv hop
  have HGo : Hid ((openP act.m P).go m = ((idn, 0), m1) ∧ RM (g + 1) m1 R.top S P V A B2 ∧ m1.count ≤ m.count + 130) := ⟨e1, hr1, by omega⟩
  have HLen : Hid (A.length = na ∧ B2.length = nb) := ⟨hna, hl2.trans hnb⟩
  have HC := Lib.hid hC
  have HI := Lib.hid (⟨i0, i9⟩ : _ ∧ _)
  have h1 := open_E hM.dgo.sys (by omega) (HK.out _ _ _ _ _ hM.dgo).2.1 act.m
  obtain ⟨⟨y0, y1, y2, y3, -⟩, -, ⟨a0, a1, a2, a3, a4⟩, ci⟩ := HK.out _ _ _ _ _ hM.dgo
  simp only [Nat.zero_add] at a0 a1 a2 a3 a4
  have HM := Lib.hid hM
  show Calls Tryd.prog 50 #[.pointer (some ⟨w.heap.size, 0, none⟩), .pointer (some ⟨wd.heap.size + 2, 0, none⟩), .pointer (some ⟨wd.heap.size, 0, none⟩), .pointer (some ⟨wd.heap.size + 1, 0, none⟩), .pointer (some ⟨wd.heap.size + 5, 0, none⟩), .pointer (some ⟨wd.heap.size + 3, 0, none⟩)] (w.alloc (portObj b)) _
  unfold Rg.v at h1
  clear he hr hg hc hrg hin hx hV hM hac hna hnb e1 hr1 n1 hop hiv hC hl2 i0 i9
  generalize hwp : w.alloc (portObj b) = wp at *
  generalize hnd : wd.heap.size = nd at *
  clear hwp hnd
  go_enter Tryd.func50, Tryd.ntmps50
  go_wp2_with fail
  refine h1.mono ?_
  rintro e w1 hE
  obtain ⟨rfl, t1, G1, hM1⟩ := HM.out.op2 hE HGo.out.1 HGo.out.2.1 HGo.out.2.2
  obtain ⟨⟨y0', y1', y2', y3', -⟩, -, ⟨a0', a1', a2', a3', a4'⟩, ci'⟩ := HK.out _ _ _ _ _ hM1.dgo
  simp only [Nat.zero_add] at a0' a1' a2' a3' a4'
  obtain ⟨x0, x1, x2, xz⟩ := hM1.bx
  rw [HNa.out.1] at x1
  rw [HNa.out.2] at x2
  have to0 := hM1.to
  have toz := hM1.fz
  have HM1 := Lib.hid hM1
  clear h1 hE y0 y1 y2 y3 a0 a1 a2 a3 a4 ci HM hM1
  have h2 := refopen_any w1 x V A B HM1.out.is HL.out.2.1 HL.out.2.2.2.2.2.2.2.2 act.m
  unfold Rs.v at h2
  rw [HNa.out.1, HNa.out.2] at h2
  go_wp2_with fail
  refine h2.mono ?_
  rintro e w2 hcr
  obtain ⟨x', rfl, hn⟩ := HC.out _ _ _ _ _ hcr
  clear hcr
  unfold Rs.v
  rw [HNa.out.1, HNa.out.2]
  obtain ⟨⟨x0', x1', x2', xz'⟩, hM3⟩ := HM1.out.ref hn ⟨HLen.out.1.trans HNa.out.1.symm, HLen.out.2.trans HNa.out.2.symm⟩
  rw [HNa.out.1, HNa.out.2] at hM3
  rw [HNa.out.1] at x1'
  rw [HNa.out.2] at x2'
  have to0' := (HM1.out.later hn.2).to
  have toz' := (HM1.out.later hn.2).fz
  clear h2 hn x0 x1 x2 xz y0' y1' y2' y3' a0' a1' a2' a3' a4' ci' to0 toz
  have HW3 : Hid (∃ W, W = put3 w2 (nd + 1) V (.slice x'.sa na x'.sc) (.slice x'.pa nb x'.pc)) := ⟨_, rfl⟩
  obtain ⟨w3, hw3⟩ := HW3.out
  rw [← hw3] at hM3
  unfold put3 at hw3
  replace HW3 := Lib.hid hw3.symm
  clear hw3
  obtain ⟨⟨y0, y1, y2, y3, -⟩, -, ⟨a0, a1, a2, a3, a4⟩, ci⟩ := HK.out _ _ _ _ _ hM3.dgo
  simp only [Nat.zero_add] at a0 a1 a2 a3 a4
  obtain ⟨x0, x1, x2, xz⟩ := hM3.bx
  rw [HLen.out.1] at x1
  rw [HLen.out.2] at x2
  have to0 := hM3.to
  have toz := hM3.fz
  have hM33 := hM3.tell idn
  have HW4 : Hid (∃ W, W = w3.setCell ⟨nd + 5, 0, none⟩ (.int .i64 idn)) := ⟨_, rfl⟩
  clear hM3
  obtain ⟨w33, hw33⟩ := HW4.out
  rw [← hw33] at hM33
  replace HW4 := Lib.hid hw33.symm
  clear hw33 y0 y1 y2 y3 a0 a1 a2 a3 a4 ci
  obtain ⟨⟨y0, y1, y2, y3, -⟩, -, ⟨a0, a1, a2, a3, a4⟩, ci⟩ := HK.out _ _ _ _ _ hM33.dgo
  simp only [Nat.zero_add] at a0 a1 a2 a3 a4
  have hM3 := hM33
  clear hM33
  obtain ⟨m4, e4, hr4, n4, -⟩ := hM3.rm.least (by have := HL.out; omega) act.pos
  obtain ⟨m5, e5, hr5, n5, -⟩ := hr4.oldest act.pos
  have h4 := least_E hM3.dgo.sys (by have := hM3.cnt; have := HL.out; omega) (HK.out _ _ _ _ _ hM3.dgo).2.1 act.pos
  unfold Rg.v at h4
  have H4 := Lib.hid (⟨e4, hr4, n4, e5, hr5, n5⟩ : _ ∧ _ ∧ _ ∧ _ ∧ _ ∧ _)
  have HM3 := Lib.hid hM3
  clear hM3 e4 hr4 n4 e5 hr5 n5
  go_wp2_with (first | rw [HW3.out] | rw [HW4.out] | fail)
  refine h4.mono ?_
  rintro e w4 hE
  obtain ⟨rfl, t4, G4, hM4⟩ := HM3.out.op2 hE H4.out.1 H4.out.2.1 (q' := m.count + 340) (by have := H4.out.2.2.1; have := HM3.out.cnt; omega)
  have h5 := oldest_E hM4.dgo.sys (by have := hM4.cnt; have := HL.out; omega) (HK.out _ _ _ _ _ hM4.dgo).2.1 act.pos
  unfold Rg.v at h5
  obtain ⟨⟨z0, z1, z2, z3, -⟩, -, ⟨k0, k1, k2, k3, k4⟩, -⟩ := HK.out _ _ _ _ _ hM4.dgo
  simp only [Nat.zero_add] at k0 k1 k2 k3 k4
  have HM4 := Lib.hid hM4
  clear h4 hE hM4 HM3 y0 y1 y2 y3 a0 a1 a2 a3 a4 ci x0 x1 x2 xz to0 toz
  go_wp2_with fail
  refine h5.mono ?_
  rintro e w5 hE
  obtain ⟨rfl, t5, G5, hM5⟩ := HM4.out.op2 hE H4.out.2.2.2.1 H4.out.2.2.2.2.1 (q' := m.count + 410) (by have := H4.out.2.2.2.2.2; have := H4.out.2.2.1; have := HM4.out.cnt; omega)
  obtain ⟨⟨z0', z1', z2', z3', -⟩, -, ⟨k0', k1', k2', k3', k4'⟩, -⟩ := HK.out _ _ _ _ _ hM5.dgo
  simp only [Nat.zero_add] at k0' k1' k2' k3' k4'
  obtain ⟨x0, x1, x2, xz⟩ := hM5.bx
  have h6 := refleast_any w5 _ V _ _ hM5.is (by rw [HLen.out.1, ← HNa.out.1]; exact HL.out.1) (by rw [HLen.out.2, ← HNa.out.2]; exact HL.out.2.1) act.pos
  unfold Rs.v at h6
  rw [HLen.out.1] at x1
  rw [HLen.out.2] at x2
  rw [HLen.out.1, HLen.out.2] at h6
  have HM5 := Lib.hid hM5
  clear h5 hE hM5 HM4 z0 z1 z2 z3 k0 k1 k2 k3 k4 H4
  go_wp2_with fail
  refine h6.mono ?_
  rintro e w6 ⟨rfl, hb6⟩
  have hM6 := HM5.out.later hb6
  obtain ⟨⟨z0, z1, z2, z3, -⟩, -, ⟨k0, k1, k2, k3, k4⟩, -⟩ := HK.out _ _ _ _ _ hM6.dgo
  simp only [Nat.zero_add] at k0 k1 k2 k3 k4
  have h7 := refoldest_any w6 _ V _ _ hM6.is (by rw [HLen.out.1, ← HNa.out.1]; exact HL.out.1) act.pos
  unfold Rs.v at h7
  clear x0 x1 x2 xz
  obtain ⟨x0, x1, x2, xz⟩ := hM6.bx
  rw [HLen.out.1] at x1
  rw [HLen.out.2] at x2
  rw [HLen.out.1, HLen.out.2] at h7
  have HM6 := Lib.hid hM6
  clear h6 hb6 hM6 HM5 z0' z1' z2' z3' k0' k1' k2' k3' k4'
  go_wp2_with fail
  refine h7.mono ?_
  rintro e w7 ⟨rfl, hb7⟩
  have HE := Lib.hid ((HM6.out.later hb7).out (by have := HI.out; omega) (by have := HI.out; omega))
  clear h7 hb7 HM6 z0 z1 z2 z3 k0 k1 k2 k3 k4 x0 x1 x2 xz
  go_wp2
  go_ret
  exact ⟨_, rfl, rfl, HE.out⟩
set_option maxHeartbeats 4000000 in
theorem act_5a {w0 wd w : World} {b c r : Nat} {G : List (Nat × List Sw)} {m : M} {R : Rg} {S P A : List Int} {B : List (Int × Int)} {g V id : Int} {x : Rs} {act : Ac} {K : Nat → Prop} (he : HasE w0 b c r G wd m) (hr : RM g m R.top S P V A B) (hg : g ≤ 15000) (hc : m.count ≤ 600000) (hrg : RgL w0 b c r G wd R S P) (hin : DIn w0 b c r G wd w R act id x V A.length B.length) (hx : RIs (fun z => LocM w0 b c r G wd z ∧ K z) wd x A B) (hV : 0 ≤ V ∧ V ≤ 1000000) (hid : id < 9223372036854775808) (ha : act.act % 7 = 5) (hac : 0 ≤ act.act ∧ act.act ≤ 255) (hf : findI B id = none) :
    Calls Tryd.prog 50 (#[.pointer (some ⟨w.heap.size, 0, none⟩)] ++ #[.pointer (some ⟨wd.heap.size + 2, 0, none⟩), .pointer (some ⟨wd.heap.size, 0, none⟩), .pointer (some ⟨wd.heap.size + 1, 0, none⟩), .pointer (some ⟨wd.heap.size + 5, 0, none⟩), .pointer (some ⟨wd.heap.size + 3, 0, none⟩)]) (w.alloc (portObj b)) fun e w' => ∃ u, e = .returned u ∧ u = .iface 4 (.bool true) ∧ POut K w0 b c r G w wd.heap.size R.top S P (g + 1) V (m.count + 410) w' := by
  have hM := PMid.start hin he hr hx
  have HK := Lib.hid (fun (t1 : Value) (G1 : List (Nat × List Sw)) (w1 : World) (m1 : M) (s1 : Pt) (hd : Dgo w0 b c r w.heap.size [b, c, r, wd.heap.size + 1, wd.heap.size + 5] w t1 G G1 w1 m1 s1) => hin.read he hrg rfl hd)
  have HL : Hid (A.length ≤ 64 ∧ B.length ≤ 64 ∧ A.length = S.length ∧ B.length = P.length ∧ V ≤ 1000000 ∧ 0 ≤ V ∧ g ≤ 15000 ∧ m.count ≤ 600000 ∧ ∀ y ∈ B, 0 ≤ y.1 ∧ y.1 ≤ 100000) := ⟨by rw [hr.al]; exact hr.sf, by rw [hr.bl]; exact hr.pf, hr.al, hr.bl, hV.2, hV.1, hg, hc, fun y hy => by have := hr.bv y hy; omega⟩
  obtain ⟨na, hna⟩ : ∃ n, A.length = n := ⟨_, rfl⟩
  obtain ⟨nb, hnb⟩ : ∃ n, B.length = n := ⟨_, rfl⟩
  have HNa := Lib.hid (⟨hna, hnb⟩ : _ ∧ _)
  have hac1 := hac.1
  have hac2 := hac.2
  have HV := Lib.hid hV
  have hmk := mkb4
  obtain ⟨m1, e1, hr1, n1⟩ := hr.findv (by omega) id
  rw [hf] at e1
  have HGo : Hid ((findVP id P).go m = ((0, 2), m1) ∧ RM (g + 1) m1 R.top S P V A B ∧ m1.count ≤ m.count + 5) := ⟨e1, hr1.more (by omega), by omega⟩
  have HF : Hid (findN B id = -1) := by unfold Hid findN; rw [hf]
  have HI := Lib.hid hid
  have h1 := findv_E hM.dgo.sys (by omega) (HK.out _ _ _ _ _ hM.dgo).2.1 id hid
  obtain ⟨⟨y0, y1, y2, y3, -⟩, -, ⟨a0, a1, a2, a3, a4⟩, ci⟩ := HK.out _ _ _ _ _ hM.dgo
  simp only [Nat.zero_add] at a0 a1 a2 a3 a4
  have HM := Lib.hid hM
  show Calls Tryd.prog 50 #[.pointer (some ⟨w.heap.size, 0, none⟩), .pointer (some ⟨wd.heap.size + 2, 0, none⟩), .pointer (some ⟨wd.heap.size, 0, none⟩), .pointer (some ⟨wd.heap.size + 1, 0, none⟩), .pointer (some ⟨wd.heap.size + 5, 0, none⟩), .pointer (some ⟨wd.heap.size + 3, 0, none⟩)] (w.alloc (portObj b)) _
  unfold Rg.v at h1
  clear he hr hg hc hrg hin hx hV hM hac hna hnb e1 hr1 n1 hf hid
  generalize hwp : w.alloc (portObj b) = wp at *
  generalize hnd : wd.heap.size = nd at *
  clear hwp hnd
  go_enter Tryd.func50, Tryd.ntmps50
  go_wp2_with fail
  refine h1.mono ?_
  rintro e w1 hE
  obtain ⟨rfl, t1, G1, hM1⟩ := HM.out.op2 hE HGo.out.1 HGo.out.2.1 HGo.out.2.2
  obtain ⟨⟨y0', y1', y2', y3', -⟩, -, ⟨a0', a1', a2', a3', a4'⟩, ci'⟩ := HK.out _ _ _ _ _ hM1.dgo
  simp only [Nat.zero_add] at a0' a1' a2' a3' a4'
  obtain ⟨x0, x1, x2, xz⟩ := hM1.bx
  rw [HNa.out.1] at x1
  rw [HNa.out.2] at x2
  have to0 := hM1.to
  have toz := hM1.fz
  have HM1 := Lib.hid hM1
  clear h1 hE y0 y1 y2 y3 a0 a1 a2 a3 a4 ci HM hM1
  have h2 := reffind_any w1 x V A B HM1.out.is HL.out.2.1 id HI.out
  rw [HF.out] at h2
  unfold Rs.v at h2
  rw [HNa.out.1, HNa.out.2] at h2
  go_wp2_with fail
  refine h2.mono ?_
  rintro e w2 ⟨rfl, hb2⟩
  have hM3 := HM1.out.later hb2
  have HLen : Hid (A.length = na ∧ B.length = nb) := HNa
  clear h2 hb2 x0 x1 x2 xz y0' y1' y2' y3' a0' a1' a2' a3' a4' ci' to0 toz
  obtain ⟨⟨y0, y1, y2, y3, -⟩, -, ⟨a0, a1, a2, a3, a4⟩, ci⟩ := HK.out _ _ _ _ _ hM3.dgo
  simp only [Nat.zero_add] at a0 a1 a2 a3 a4
  obtain ⟨x0, x1, x2, xz⟩ := hM3.bx
  rw [HNa.out.1] at x1
  rw [HNa.out.2] at x2
  have to0 := hM3.to
  have toz := hM3.fz
  obtain ⟨m4, e4, hr4, n4, -⟩ := hM3.rm.least (by have := HL.out; omega) act.pos
  obtain ⟨m5, e5, hr5, n5, -⟩ := hr4.oldest act.pos
  have h4 := least_E hM3.dgo.sys (by have := hM3.cnt; have := HL.out; omega) (HK.out _ _ _ _ _ hM3.dgo).2.1 act.pos
  unfold Rg.v at h4
  have H4 := Lib.hid (⟨e4, hr4, n4, e5, hr5, n5⟩ : _ ∧ _ ∧ _ ∧ _ ∧ _ ∧ _)
  have HM3 := Lib.hid hM3
  clear hM3 e4 hr4 n4 e5 hr5 n5
  go_wp2_with (first | fail)
  refine h4.mono ?_
  rintro e w4 hE
  obtain ⟨rfl, t4, G4, hM4⟩ := HM3.out.op2 hE H4.out.1 H4.out.2.1 (q' := m.count + 340) (by have := H4.out.2.2.1; have := HM3.out.cnt; omega)
  have h5 := oldest_E hM4.dgo.sys (by have := hM4.cnt; have := HL.out; omega) (HK.out _ _ _ _ _ hM4.dgo).2.1 act.pos
  unfold Rg.v at h5
  obtain ⟨⟨z0, z1, z2, z3, -⟩, -, ⟨k0, k1, k2, k3, k4⟩, -⟩ := HK.out _ _ _ _ _ hM4.dgo
  simp only [Nat.zero_add] at k0 k1 k2 k3 k4
  have HM4 := Lib.hid hM4
  clear h4 hE hM4 HM3 y0 y1 y2 y3 a0 a1 a2 a3 a4 ci x0 x1 x2 xz to0 toz
  go_wp2_with fail
  refine h5.mono ?_
  rintro e w5 hE
  obtain ⟨rfl, t5, G5, hM5⟩ := HM4.out.op2 hE H4.out.2.2.2.1 H4.out.2.2.2.2.1 (q' := m.count + 410) (by have := H4.out.2.2.2.2.2; have := H4.out.2.2.1; have := HM4.out.cnt; omega)
  obtain ⟨⟨z0', z1', z2', z3', -⟩, -, ⟨k0', k1', k2', k3', k4'⟩, -⟩ := HK.out _ _ _ _ _ hM5.dgo
  simp only [Nat.zero_add] at k0' k1' k2' k3' k4'
  obtain ⟨x0, x1, x2, xz⟩ := hM5.bx
  have h6 := refleast_any w5 _ V _ _ hM5.is (by rw [HLen.out.1, ← HNa.out.1]; exact HL.out.1) (by rw [HLen.out.2, ← HNa.out.2]; exact HL.out.2.1) act.pos
  unfold Rs.v at h6
  rw [HLen.out.1] at x1
  rw [HLen.out.2] at x2
  rw [HLen.out.1, HLen.out.2] at h6
  have HM5 := Lib.hid hM5
  clear h5 hE hM5 HM4 z0 z1 z2 z3 k0 k1 k2 k3 k4 H4
  go_wp2_with fail
  refine h6.mono ?_
  rintro e w6 ⟨rfl, hb6⟩
  have hM6 := HM5.out.later hb6
  obtain ⟨⟨z0, z1, z2, z3, -⟩, -, ⟨k0, k1, k2, k3, k4⟩, -⟩ := HK.out _ _ _ _ _ hM6.dgo
  simp only [Nat.zero_add] at k0 k1 k2 k3 k4
  have h7 := refoldest_any w6 _ V _ _ hM6.is (by rw [HLen.out.1, ← HNa.out.1]; exact HL.out.1) act.pos
  unfold Rs.v at h7
  clear x0 x1 x2 xz
  obtain ⟨x0, x1, x2, xz⟩ := hM6.bx
  rw [HLen.out.1] at x1
  rw [HLen.out.2] at x2
  rw [HLen.out.1, HLen.out.2] at h7
  have HM6 := Lib.hid hM6
  clear h6 hb6 hM6 HM5 z0' z1' z2' z3' k0' k1' k2' k3' k4'
  go_wp2_with fail
  refine h7.mono ?_
  rintro e w7 ⟨rfl, hb7⟩
  have HE := Lib.hid ((HM6.out.later hb7).out (by decide) (by decide))
  clear h7 hb7 HM6 z0 z1 z2 z3 k0 k1 k2 k3 k4 x0 x1 x2 xz
  go_wp2
  go_ret
  exact ⟨_, rfl, rfl, HE.out⟩
set_option maxHeartbeats 4000000 in
theorem act_5b {w0 wd w : World} {b c r : Nat} {G : List (Nat × List Sw)} {m : M} {R : Rg} {S P A : List Int} {B : List (Int × Int)} {g V id : Int} {x : Rs} {act : Ac} {K : Nat → Prop} (he : HasE w0 b c r G wd m) (hr : RM g m R.top S P V A B) (hg : g ≤ 15000) (hc : m.count ≤ 600000) (hrg : RgL w0 b c r G wd R S P) (hin : DIn w0 b c r G wd w R act id x V A.length B.length) (hx : RIs (fun z => LocM w0 b c r G wd z ∧ K z) wd x A B) (hV : 0 ≤ V ∧ V ≤ 1000000) (hid : id < 9223372036854775808) (ha : act.act % 7 = 5) (hac : 0 ≤ act.act ∧ act.act ≤ 255) {kf : Nat} {bk : Int × Int} (hf : findI B id = some (kf, bk)) :
    Calls Tryd.prog 50 (#[.pointer (some ⟨w.heap.size, 0, none⟩)] ++ #[.pointer (some ⟨wd.heap.size + 2, 0, none⟩), .pointer (some ⟨wd.heap.size, 0, none⟩), .pointer (some ⟨wd.heap.size + 1, 0, none⟩), .pointer (some ⟨wd.heap.size + 5, 0, none⟩), .pointer (some ⟨wd.heap.size + 3, 0, none⟩)]) (w.alloc (portObj b)) fun e w' => ∃ u, e = .returned u ∧ u = .iface 4 (.bool true) ∧ POut K w0 b c r G w wd.heap.size R.top S P (g + 1) V (m.count + 410) w' := by
  have hM := PMid.start hin he hr hx
  have HK := Lib.hid (fun (t1 : Value) (G1 : List (Nat × List Sw)) (w1 : World) (m1 : M) (s1 : Pt) (hd : Dgo w0 b c r w.heap.size [b, c, r, wd.heap.size + 1, wd.heap.size + 5] w t1 G G1 w1 m1 s1) => hin.read he hrg rfl hd)
  have HL : Hid (A.length ≤ 64 ∧ B.length ≤ 64 ∧ A.length = S.length ∧ B.length = P.length ∧ V ≤ 1000000 ∧ 0 ≤ V ∧ g ≤ 15000 ∧ m.count ≤ 600000 ∧ ∀ y ∈ B, 0 ≤ y.1 ∧ y.1 ≤ 100000) := ⟨by rw [hr.al]; exact hr.sf, by rw [hr.bl]; exact hr.pf, hr.al, hr.bl, hV.2, hV.1, hg, hc, fun y hy => by have := hr.bv y hy; omega⟩
  obtain ⟨na, hna⟩ : ∃ n, A.length = n := ⟨_, rfl⟩
  obtain ⟨nb, hnb⟩ : ∃ n, B.length = n := ⟨_, rfl⟩
  have HNa := Lib.hid (⟨hna, hnb⟩ : _ ∧ _)
  have hac1 := hac.1
  have hac2 := hac.2
  have HV := Lib.hid hV
  have hmk := mkb4
  obtain ⟨m1, e1, hr1, n1⟩ := hr.findv (by omega) id
  rw [hf] at e1
  obtain ⟨-, -, hbk, -, -⟩ := findI_some hf
  have HBk := Lib.hid hbk
  have hkl := (List.getElem?_eq_some_iff.1 hbk).1
  have HGo : Hid ((findVP id P).go m = ((bk.2, 0), m1) ∧ RM (g + 1) m1 R.top S P V A B ∧ m1.count ≤ m.count + 5) := ⟨e1, hr1.more (by omega), by omega⟩
  have HF : Hid (findN B id = (kf : Int)) := by unfold Hid findN; rw [hf]
  have HI := Lib.hid hid
  have kf0 : (kf : Int) < (B.length : Int) := by omega
  have h1 := findv_E hM.dgo.sys (by omega) (HK.out _ _ _ _ _ hM.dgo).2.1 id hid
  obtain ⟨⟨y0, y1, y2, y3, -⟩, -, ⟨a0, a1, a2, a3, a4⟩, ci⟩ := HK.out _ _ _ _ _ hM.dgo
  simp only [Nat.zero_add] at a0 a1 a2 a3 a4
  have HM := Lib.hid hM
  show Calls Tryd.prog 50 #[.pointer (some ⟨w.heap.size, 0, none⟩), .pointer (some ⟨wd.heap.size + 2, 0, none⟩), .pointer (some ⟨wd.heap.size, 0, none⟩), .pointer (some ⟨wd.heap.size + 1, 0, none⟩), .pointer (some ⟨wd.heap.size + 5, 0, none⟩), .pointer (some ⟨wd.heap.size + 3, 0, none⟩)] (w.alloc (portObj b)) _
  unfold Rg.v at h1
  clear he hr hg hc hrg hin hx hV hM hac hna hnb e1 hr1 n1 hf hid hbk
  generalize hwp : w.alloc (portObj b) = wp at *
  generalize hnd : wd.heap.size = nd at *
  clear hwp hnd
  go_enter Tryd.func50, Tryd.ntmps50
  go_wp2_with fail
  refine h1.mono ?_
  rintro e w1 hE
  obtain ⟨rfl, t1, G1, hM1⟩ := HM.out.op2 hE HGo.out.1 HGo.out.2.1 HGo.out.2.2
  obtain ⟨⟨y0', y1', y2', y3', -⟩, -, ⟨a0', a1', a2', a3', a4'⟩, ci'⟩ := HK.out _ _ _ _ _ hM1.dgo
  simp only [Nat.zero_add] at a0' a1' a2' a3' a4'
  obtain ⟨x0, x1, x2, xz⟩ := hM1.bx
  rw [HNa.out.1] at x1
  rw [HNa.out.2] at x2
  have to0 := hM1.to
  have toz := hM1.fz
  have HM1 := Lib.hid hM1
  clear h1 hE y0 y1 y2 y3 a0 a1 a2 a3 a4 ci HM hM1
  have h2 := reffind_any w1 x V A B HM1.out.is HL.out.2.1 id HI.out
  rw [HF.out] at h2
  unfold Rs.v at h2
  rw [HNa.out.1, HNa.out.2] at h2
  go_wp2_with fail
  refine h2.mono ?_
  rintro e w2 ⟨rfl, hb2⟩
  have hM3 := HM1.out.later hb2
  have HLen : Hid (A.length = na ∧ B.length = nb) := HNa
  clear h2 hb2 x0 x1 x2 xz y0' y1' y2' y3' a0' a1' a2' a3' a4' ci' to0 toz
  obtain ⟨⟨y0, y1, y2, y3, -⟩, -, ⟨a0, a1, a2, a3, a4⟩, ci⟩ := HK.out _ _ _ _ _ hM3.dgo
  simp only [Nat.zero_add] at a0 a1 a2 a3 a4
  obtain ⟨x0, x1, x2, xz⟩ := hM3.bx
  have to0 := hM3.to
  have toz := hM3.fz
  obtain ⟨gb, egb, q1, q2⟩ := hM3.is.b.see HBk.out
  rw [egb, HNa.out.2] at x2
  rw [HNa.out.1] at x1
  have hat := at_42 gb nb x.pc kf (by rw [← HNa.out.2]; exact hkl)
  rw [HNa.out.2] at hkl kf0
  have HM2 := Lib.hid hM3
  have kf1 : (0 : Int) ≤ (kf : Int) := by omega
  clear hM3
  go_wp2_with fail
  go_quiet (fail)
  have hM3 := HM2.out.later (below_drewN (B := w2.heap.size) w2 nq)
  obtain ⟨w3, hw3⟩ : ∃ W, w2.drewN nq = W := ⟨_, rfl⟩
  rw [hw3] at hM3 ⊢
  clear egb hat q1 q2 hkl kf0 kf1 HM2 hw3 y0 y1 y2 y3 a0 a1 a2 a3 a4 ci x0 x1 x2 xz to0 toz
  obtain ⟨⟨y0, y1, y2, y3, -⟩, -, ⟨a0, a1, a2, a3, a4⟩, ci⟩ := HK.out _ _ _ _ _ hM3.dgo
  simp only [Nat.zero_add] at a0 a1 a2 a3 a4
  obtain ⟨x0, x1, x2, xz⟩ := hM3.bx
  rw [HNa.out.1] at x1
  rw [HNa.out.2] at x2
  have to0 := hM3.to
  have toz := hM3.fz
  obtain ⟨m4, e4, hr4, n4, -⟩ := hM3.rm.least (by have := HL.out; omega) act.pos
  obtain ⟨m5, e5, hr5, n5, -⟩ := hr4.oldest act.pos
  have h4 := least_E hM3.dgo.sys (by have := hM3.cnt; have := HL.out; omega) (HK.out _ _ _ _ _ hM3.dgo).2.1 act.pos
  unfold Rg.v at h4
  have H4 := Lib.hid (⟨e4, hr4, n4, e5, hr5, n5⟩ : _ ∧ _ ∧ _ ∧ _ ∧ _ ∧ _)
  have HM3 := Lib.hid hM3
  clear hM3 e4 hr4 n4 e5 hr5 n5
  go_wp2_with (first | fail)
  refine h4.mono ?_
  rintro e w4 hE
  obtain ⟨rfl, t4, G4, hM4⟩ := HM3.out.op2 hE H4.out.1 H4.out.2.1 (q' := m.count + 340) (by have := H4.out.2.2.1; have := HM3.out.cnt; omega)
  have h5 := oldest_E hM4.dgo.sys (by have := hM4.cnt; have := HL.out; omega) (HK.out _ _ _ _ _ hM4.dgo).2.1 act.pos
  unfold Rg.v at h5
  obtain ⟨⟨z0, z1, z2, z3, -⟩, -, ⟨k0, k1, k2, k3, k4⟩, -⟩ := HK.out _ _ _ _ _ hM4.dgo
  simp only [Nat.zero_add] at k0 k1 k2 k3 k4
  have HM4 := Lib.hid hM4
  clear h4 hE hM4 HM3 y0 y1 y2 y3 a0 a1 a2 a3 a4 ci x0 x1 x2 xz to0 toz
  go_wp2_with fail
  refine h5.mono ?_
  rintro e w5 hE
  obtain ⟨rfl, t5, G5, hM5⟩ := HM4.out.op2 hE H4.out.2.2.2.1 H4.out.2.2.2.2.1 (q' := m.count + 410) (by have := H4.out.2.2.2.2.2; have := H4.out.2.2.1; have := HM4.out.cnt; omega)
  obtain ⟨⟨z0', z1', z2', z3', -⟩, -, ⟨k0', k1', k2', k3', k4'⟩, -⟩ := HK.out _ _ _ _ _ hM5.dgo
  simp only [Nat.zero_add] at k0' k1' k2' k3' k4'
  obtain ⟨x0, x1, x2, xz⟩ := hM5.bx
  have h6 := refleast_any w5 _ V _ _ hM5.is (by rw [HLen.out.1, ← HNa.out.1]; exact HL.out.1) (by rw [HLen.out.2, ← HNa.out.2]; exact HL.out.2.1) act.pos
  unfold Rs.v at h6
  rw [HLen.out.1] at x1
  rw [HLen.out.2] at x2
  rw [HLen.out.1, HLen.out.2] at h6
  have HM5 := Lib.hid hM5
  clear h5 hE hM5 HM4 z0 z1 z2 z3 k0 k1 k2 k3 k4 H4
  go_wp2_with fail
  refine h6.mono ?_
  rintro e w6 ⟨rfl, hb6⟩
  have hM6 := HM5.out.later hb6
  obtain ⟨⟨z0, z1, z2, z3, -⟩, -, ⟨k0, k1, k2, k3, k4⟩, -⟩ := HK.out _ _ _ _ _ hM6.dgo
  simp only [Nat.zero_add] at k0 k1 k2 k3 k4
  have h7 := refoldest_any w6 _ V _ _ hM6.is (by rw [HLen.out.1, ← HNa.out.1]; exact HL.out.1) act.pos
  unfold Rs.v at h7
  clear x0 x1 x2 xz
  obtain ⟨x0, x1, x2, xz⟩ := hM6.bx
  rw [HLen.out.1] at x1
  rw [HLen.out.2] at x2
  rw [HLen.out.1, HLen.out.2] at h7
  have HM6 := Lib.hid hM6
  clear h6 hb6 hM6 HM5 z0' z1' z2' z3' k0' k1' k2' k3' k4'
  go_wp2_with fail
  refine h7.mono ?_
  rintro e w7 ⟨rfl, hb7⟩
  have HE := Lib.hid ((HM6.out.later hb7).out (by decide) (by decide))
  clear h7 hb7 HM6 z0 z1 z2 z3 k0 k1 k2 k3 k4 x0 x1 x2 xz
  go_wp2
  go_ret
  exact ⟨_, rfl, rfl, HE.out⟩
set_option maxHeartbeats 4000000 in
theorem act_6 {w0 wd w : World} {b c r : Nat} {G : List (Nat × List Sw)} {m : M} {R : Rg} {S P A : List Int} {B : List (Int × Int)} {g V id : Int} {x : Rs} {act : Ac} {K : Nat → Prop} (he : HasE w0 b c r G wd m) (hr : RM g m R.top S P V A B) (hg : g ≤ 15000) (hc : m.count ≤ 600000) (hrg : RgL w0 b c r G wd R S P) (hin : DIn w0 b c r G wd w R act id x V A.length B.length) (hx : RIs (fun z => LocM w0 b c r G wd z ∧ K z) wd x A B) (hV : 0 ≤ V ∧ V ≤ 1000000) (hid : id < 9223372036854775808) (ha : act.act % 7 = 6) (hac : 0 ≤ act.act ∧ act.act ≤ 255) :
    Calls Tryd.prog 50 (#[.pointer (some ⟨w.heap.size, 0, none⟩)] ++ #[.pointer (some ⟨wd.heap.size + 2, 0, none⟩), .pointer (some ⟨wd.heap.size, 0, none⟩), .pointer (some ⟨wd.heap.size + 1, 0, none⟩), .pointer (some ⟨wd.heap.size + 5, 0, none⟩), .pointer (some ⟨wd.heap.size + 3, 0, none⟩)]) (w.alloc (portObj b)) fun e w' => ∃ u, e = .returned u ∧ u = .iface 4 (.bool true) ∧ POut K w0 b c r G w wd.heap.size R.top S P (g + 1) V (m.count + 410) w' := by
  have hM := PMid.start hin he hr hx
  have HK := Lib.hid (fun (t1 : Value) (G1 : List (Nat × List Sw)) (w1 : World) (m1 : M) (s1 : Pt) (hd : Dgo w0 b c r w.heap.size [b, c, r, wd.heap.size + 1, wd.heap.size + 5] w t1 G G1 w1 m1 s1) => hin.read he hrg rfl hd)
  have HL : Hid (A.length ≤ 64 ∧ B.length ≤ 64 ∧ A.length = S.length ∧ B.length = P.length ∧ V ≤ 1000000 ∧ 0 ≤ V ∧ g ≤ 15000 ∧ m.count ≤ 600000 ∧ ∀ y ∈ B, 0 ≤ y.1 ∧ y.1 ≤ 100000) := ⟨by rw [hr.al]; exact hr.sf, by rw [hr.bl]; exact hr.pf, hr.al, hr.bl, hV.2, hV.1, hg, hc, fun y hy => by have := hr.bv y hy; omega⟩
  obtain ⟨na, hna⟩ : ∃ n, A.length = n := ⟨_, rfl⟩
  obtain ⟨nb, hnb⟩ : ∃ n, B.length = n := ⟨_, rfl⟩
  have HNa := Lib.hid (⟨hna, hnb⟩ : _ ∧ _)
  have hac1 := hac.1
  have hac2 := hac.2
  have HV := Lib.hid hV
  have hmk := mkb4
  obtain ⟨er, B2, m1, e1, hr1, n1, hl2, hC⟩ := close_both hr (by omega) id
  have HGo : Hid ((closeP id P).go m = (er, m1) ∧ RM (g + 1) m1 R.top S P V A B2 ∧ m1.count ≤ m.count + 5) := ⟨e1, hr1, n1⟩
  have HLen : Hid (A.length = na ∧ B2.length = nb) := ⟨hna, hl2.trans hnb⟩
  have HC := Lib.hid hC
  have HI := Lib.hid hid
  have h1 := close_E hM.dgo.sys (by omega) (HK.out _ _ _ _ _ hM.dgo).2.1 id hid
  obtain ⟨⟨y0, y1, y2, y3, -⟩, -, ⟨a0, a1, a2, a3, a4⟩, ci⟩ := HK.out _ _ _ _ _ hM.dgo
  simp only [Nat.zero_add] at a0 a1 a2 a3 a4
  have HM := Lib.hid hM
  show Calls Tryd.prog 50 #[.pointer (some ⟨w.heap.size, 0, none⟩), .pointer (some ⟨wd.heap.size + 2, 0, none⟩), .pointer (some ⟨wd.heap.size, 0, none⟩), .pointer (some ⟨wd.heap.size + 1, 0, none⟩), .pointer (some ⟨wd.heap.size + 5, 0, none⟩), .pointer (some ⟨wd.heap.size + 3, 0, none⟩)] (w.alloc (portObj b)) _
  unfold Rg.v at h1
  clear he hr hg hc hrg hin hx hV hM hac hna hnb e1 hr1 n1 hl2 hC hid
  generalize hwp : w.alloc (portObj b) = wp at *
  generalize hnd : wd.heap.size = nd at *
  clear hwp hnd
  go_enter Tryd.func50, Tryd.ntmps50
  go_wp2_with fail
  refine h1.mono ?_
  rintro e w1 hE
  obtain ⟨rfl, t1, G1, hM1⟩ := HM.out.op1 hE HGo.out.1 HGo.out.2.1 HGo.out.2.2
  obtain ⟨⟨y0', y1', y2', y3', -⟩, -, ⟨a0', a1', a2', a3', a4'⟩, ci'⟩ := HK.out _ _ _ _ _ hM1.dgo
  simp only [Nat.zero_add] at a0' a1' a2' a3' a4'
  obtain ⟨x0, x1, x2, xz⟩ := hM1.bx
  rw [HNa.out.1] at x1
  rw [HNa.out.2] at x2
  have to0 := hM1.to
  have toz := hM1.fz
  have HM1 := Lib.hid hM1
  clear h1 hE y0 y1 y2 y3 a0 a1 a2 a3 a4 ci HM hM1
  have h2 := refclose_any w1 x V A B HM1.out.is HL.out.2.1 HL.out.2.2.2.2.2.2.2.2 id HI.out
  unfold Rs.v at h2
  rw [HNa.out.1, HNa.out.2] at h2
  go_wp2_with fail
  refine h2.mono ?_
  rintro e w2 hcr
  obtain ⟨x', rfl, hn⟩ := HC.out _ _ _ _ _ hcr
  clear hcr
  unfold Rs.v
  rw [HNa.out.1, HNa.out.2]
  obtain ⟨⟨x0', x1', x2', xz'⟩, hM3⟩ := HM1.out.ref hn ⟨HLen.out.1.trans HNa.out.1.symm, HLen.out.2.trans HNa.out.2.symm⟩
  rw [HNa.out.1, HNa.out.2] at hM3
  rw [HNa.out.1] at x1'
  rw [HNa.out.2] at x2'
  have to0' := (HM1.out.later hn.2).to
  have toz' := (HM1.out.later hn.2).fz
  clear h2 hn x0 x1 x2 xz y0' y1' y2' y3' a0' a1' a2' a3' a4' ci' to0 toz
  have HW3 : Hid (∃ W, W = put3 w2 (nd + 1) V (.slice x'.sa na x'.sc) (.slice x'.pa nb x'.pc)) := ⟨_, rfl⟩
  obtain ⟨w3, hw3⟩ := HW3.out
  rw [← hw3] at hM3
  unfold put3 at hw3
  replace HW3 := Lib.hid hw3.symm
  clear hw3
  obtain ⟨⟨y0, y1, y2, y3, -⟩, -, ⟨a0, a1, a2, a3, a4⟩, ci⟩ := HK.out _ _ _ _ _ hM3.dgo
  simp only [Nat.zero_add] at a0 a1 a2 a3 a4
  obtain ⟨x0, x1, x2, xz⟩ := hM3.bx
  rw [HLen.out.1] at x1
  rw [HLen.out.2] at x2
  have to0 := hM3.to
  have toz := hM3.fz
  obtain ⟨m4, e4, hr4, n4, -⟩ := hM3.rm.least (by have := HL.out; omega) act.pos
  obtain ⟨m5, e5, hr5, n5, -⟩ := hr4.oldest act.pos
  have h4 := least_E hM3.dgo.sys (by have := hM3.cnt; have := HL.out; omega) (HK.out _ _ _ _ _ hM3.dgo).2.1 act.pos
  unfold Rg.v at h4
  have H4 := Lib.hid (⟨e4, hr4, n4, e5, hr5, n5⟩ : _ ∧ _ ∧ _ ∧ _ ∧ _ ∧ _)
  have HM3 := Lib.hid hM3
  clear hM3 e4 hr4 n4 e5 hr5 n5
  go_wp2_with (first | rw [HW3.out] | fail)
  refine h4.mono ?_
  rintro e w4 hE
  obtain ⟨rfl, t4, G4, hM4⟩ := HM3.out.op2 hE H4.out.1 H4.out.2.1 (q' := m.count + 340) (by have := H4.out.2.2.1; have := HM3.out.cnt; omega)
  have h5 := oldest_E hM4.dgo.sys (by have := hM4.cnt; have := HL.out; omega) (HK.out _ _ _ _ _ hM4.dgo).2.1 act.pos
  unfold Rg.v at h5
  obtain ⟨⟨z0, z1, z2, z3, -⟩, -, ⟨k0, k1, k2, k3, k4⟩, -⟩ := HK.out _ _ _ _ _ hM4.dgo
  simp only [Nat.zero_add] at k0 k1 k2 k3 k4
  have HM4 := Lib.hid hM4
  clear h4 hE hM4 HM3 y0 y1 y2 y3 a0 a1 a2 a3 a4 ci x0 x1 x2 xz to0 toz
  go_wp2_with fail
  refine h5.mono ?_
  rintro e w5 hE
  obtain ⟨rfl, t5, G5, hM5⟩ := HM4.out.op2 hE H4.out.2.2.2.1 H4.out.2.2.2.2.1 (q' := m.count + 410) (by have := H4.out.2.2.2.2.2; have := H4.out.2.2.1; have := HM4.out.cnt; omega)
  obtain ⟨⟨z0', z1', z2', z3', -⟩, -, ⟨k0', k1', k2', k3', k4'⟩, -⟩ := HK.out _ _ _ _ _ hM5.dgo
  simp only [Nat.zero_add] at k0' k1' k2' k3' k4'
  obtain ⟨x0, x1, x2, xz⟩ := hM5.bx
  have h6 := refleast_any w5 _ V _ _ hM5.is (by rw [HLen.out.1, ← HNa.out.1]; exact HL.out.1) (by rw [HLen.out.2, ← HNa.out.2]; exact HL.out.2.1) act.pos
  unfold Rs.v at h6
  rw [HLen.out.1] at x1
  rw [HLen.out.2] at x2
  rw [HLen.out.1, HLen.out.2] at h6
  have HM5 := Lib.hid hM5
  clear h5 hE hM5 HM4 z0 z1 z2 z3 k0 k1 k2 k3 k4 H4
  go_wp2_with fail
  refine h6.mono ?_
  rintro e w6 ⟨rfl, hb6⟩
  have hM6 := HM5.out.later hb6
  obtain ⟨⟨z0, z1, z2, z3, -⟩, -, ⟨k0, k1, k2, k3, k4⟩, -⟩ := HK.out _ _ _ _ _ hM6.dgo
  simp only [Nat.zero_add] at k0 k1 k2 k3 k4
  have h7 := refoldest_any w6 _ V _ _ hM6.is (by rw [HLen.out.1, ← HNa.out.1]; exact HL.out.1) act.pos
  unfold Rs.v at h7
  clear x0 x1 x2 xz
  obtain ⟨x0, x1, x2, xz⟩ := hM6.bx
  rw [HLen.out.1] at x1
  rw [HLen.out.2] at x2
  rw [HLen.out.1, HLen.out.2] at h7
  have HM6 := Lib.hid hM6
  clear h6 hb6 hM6 HM5 z0' z1' z2' z3' k0' k1' k2' k3' k4'
  go_wp2_with fail
  refine h7.mono ?_
  rintro e w7 ⟨rfl, hb7⟩
  have HE := Lib.hid ((HM6.out.later hb7).out (by decide) (by decide))
  clear h7 hb7 HM6 z0 z1 z2 z3 k0 k1 k2 k3 k4 x0 x1 x2 xz
  go_wp2
  go_ret
  exact ⟨_, rfl, rfl, HE.out⟩
end Go.Proofs.YtgjkkbgdkdipgaaDoor
