/- One act of RegPlays, by the program and by the reference. Conditions: at most 600000 asks; generations are small; the act is none of versions. -/
import Derived.Test.YtgjkkbgdkdipgaaDoorPyA
namespace Go.Proofs.YtgjkkbgdkdipgaaDoor
open Go.RowKit Go.Op
set_option maxRecDepth 100000

theorem close_both {g : Int} {m : M} {top : Int} {S P : List Int} {V : Int} {A : List Int} {B : List (Int × Int)} (hr : RM g m top S P V A B) (hg : g ≤ 15990) (id : Int) :
    ∃ er B2 m1, (closeP id P).go m = (er, m1) ∧ RM (g + 1) m1 top S P V A B2 ∧ m1.count ≤ m.count + 5 ∧ B2.length = B.length ∧ ∀ (Q : Nat → Prop) (w : World) (x : Rs) (e : Ending) (w' : World), CloseR Q w x V A B id e w' → ∃ x' : Rs, e = .returned (.tuple #[x'.v V A.length B.length, .int .i64 er]) ∧ RNew Q w w' x' A B2 := by
  have h := hr.close hg id
  unfold CloseR
  cases hq : findI B id with
  | none =>
    rw [hq] at h
    obtain ⟨m1, e1, h1, n1⟩ := h
    exact ⟨2, B, m1, e1, h1.more (by omega), by omega, rfl, fun Q w x e w' h => ⟨x, h.1, h.2⟩⟩
  | some kb =>
    obtain ⟨k, b⟩ := kb
    rw [hq] at h
    obtain ⟨m1, e1, h1, n1⟩ := h
    exact ⟨0, _, m1, e1, h1, by omega, by simp, fun Q w x e w' h => h⟩
theorem open_no {g : Int} {m : M} {top : Int} {S P : List Int} {V : Int} {A : List Int} {B : List (Int × Int)} (hr : RM g m top S P V A B) (hg : g ≤ 15990) (v : Int) (hop : isV v = false ∨ openI 0 B = none) :
    ∃ er m1, (openP v P).go m = ((0, er), m1) ∧ RM g m1 top S P V A B ∧ m1.count ≤ m.count + 130 ∧ ¬ er = 0 ∧ ∀ (Q : Nat → Prop) (w : World) (x : Rs) (e : Ending) (w' : World), OpenR Q w x V A B v e w' → e = .returned (.tuple #[x.v V A.length B.length, .int .i64 0, .int .i64 er]) ∧ RNew Q w w' x A B := by
  by_cases hv : isV v = false
  · refine ⟨10, m, by unfold openP; rw [if_neg (by rw [hv]; decide)]; rfl, hr, by omega, by decide, fun Q w x e w' h => ?_⟩
    unfold OpenR at h
    rw [if_pos hv] at h
    exact h
  · have ho := hop.resolve_left hv
    have hv1 : isV v = true := by simpa using hv
    have h := hr.opens v (of_decide_eq_true hv1) hg P.length 0 (by omega)
    simp only [List.drop_zero] at h
    rw [ho] at h
    obtain ⟨m1, e1, h1, n1⟩ := h
    refine ⟨3, m1, by unfold openP; rw [if_pos hv1]; exact e1, h1, by have := hr.pf; omega, by decide, fun Q w x e w' h => ?_⟩
    unfold OpenR at h
    rw [if_neg hv, ho] at h
    exact h
theorem open_yes {g : Int} {m : M} {top : Int} {S P : List Int} {V : Int} {A : List Int} {B : List (Int × Int)} (hr : RM g m top S P V A B) (hg : g ≤ 15990) (v : Int) (k : Nat) (hv1 : isV v = true) (ho : openI 0 B = some k) :
    ∃ idn B2 m1, (openP v P).go m = ((idn, 0), m1) ∧ RM (g + 1) m1 top S P V A B2 ∧ m1.count ≤ m.count + 130 ∧ B2.length = B.length ∧ -1 ≤ idn ∧ idn ≤ 100000000 ∧ ∀ (Q : Nat → Prop) (w : World) (x : Rs) (e : Ending) (w' : World), OpenR Q w x V A B v e w' → ∃ x' : Rs, e = .returned (.tuple #[x'.v V A.length B.length, .int .i64 idn, .int .i64 0]) ∧ RNew Q w w' x' A B2 := by
  have h := hr.opens v (of_decide_eq_true hv1) hg P.length 0 (by omega)
  simp only [List.drop_zero] at h
  rw [ho] at h
  obtain ⟨b, m1, hb, h0, e1, h1, n1⟩ := h
  have hbv := hr.bv b (List.mem_of_getElem? hb)
  have hkl := (List.getElem?_eq_some_iff.1 hb).1
  refine ⟨b.1 * 64 + (k : Int), _, m1, by unfold openP; rw [if_pos hv1]; exact e1, h1, by have := hr.pf; omega, by simp, by omega, by have := hr.bl; have := hr.pf; omega, fun Q w x e w' h => ?_⟩
  unfold OpenR at h
  rw [if_neg (by rw [hv1]; decide), ho] at h
  obtain ⟨b', x', hb', he, hn⟩ := h
  rw [hb] at hb'
  cases hb'
  exact ⟨x', he, hn⟩
set_option maxHeartbeats 4000000 in
theorem act_1a {w0 wd w : World} {b c r : Nat} {G : List (Nat × List Sw)} {m : M} {R : Rg} {S P A : List Int} {B : List (Int × Int)} {g V id : Int} {x : Rs} {act : Ac} {K : Nat → Prop} (he : HasE w0 b c r G wd m) (hr : RM g m R.top S P V A B) (hg : g ≤ 15000) (hc : m.count ≤ 600000) (hrg : RgL w0 b c r G wd R S P) (hin : DIn w0 b c r G wd w R act id x V A.length B.length) (hx : RIs (fun z => LocM w0 b c r G wd z ∧ K z) wd x A B) (hV : 0 ≤ V ∧ V ≤ 1000000) (_hid : id < 9223372036854775808) (ha : act.act % 7 = 1) (hac : 0 ≤ act.act ∧ act.act ≤ 255) (hcl : isC S act.pos = true) :
    Calls Tryd.prog 50 (#[.pointer (some ⟨w.heap.size, 0, none⟩)] ++ #[.pointer (some ⟨wd.heap.size + 2, 0, none⟩), .pointer (some ⟨wd.heap.size, 0, none⟩), .pointer (some ⟨wd.heap.size + 1, 0, none⟩), .pointer (some ⟨wd.heap.size + 5, 0, none⟩), .pointer (some ⟨wd.heap.size + 3, 0, none⟩)]) (w.alloc (portObj b)) fun e w' => ∃ u, e = .returned u ∧ u = .iface 4 (.bool true) ∧ POut K w0 b c r G w wd.heap.size R.top S P (g + 1) V (m.count + 410) w' := by
  have hM := PMid.start hin he hr hx
  have HK := Lib.hid (fun (t1 : Value) (G1 : List (Nat × List Sw)) (w1 : World) (m1 : M) (s1 : Pt) (hd : Dgo w0 b c r w.heap.size [b, c, r, wd.heap.size + 1, wd.heap.size + 5] w t1 G G1 w1 m1 s1) => hin.read he hrg rfl hd)
  have HL : Hid (A.length ≤ 64 ∧ B.length ≤ 64 ∧ A.length = S.length ∧ B.length = P.length ∧ V ≤ 1000000 ∧ 0 ≤ V ∧ g ≤ 15000 ∧ m.count ≤ 600000 ∧ ∀ y ∈ B, 0 ≤ y.1 ∧ y.1 ≤ 100000) := ⟨by rw [hr.al]; exact hr.sf, by rw [hr.bl]; exact hr.pf, hr.al, hr.bl, hV.2, hV.1, hg, hc, fun y hy => by have := hr.bv y hy; omega⟩
  obtain ⟨na, hna⟩ : ∃ n, A.length = n := ⟨_, rfl⟩
  obtain ⟨nb, hnb⟩ : ∃ n, B.length = n := ⟨_, rfl⟩
  have HNa := Lib.hid (⟨hna, hnb⟩ : _ ∧ _)
  have hac1 := hac.1
  have hac2 := hac.2
  have HV := Lib.hid hV
  have hmk := mkb4
  obtain ⟨m1, e1, hr1, n1⟩ := hr.enter (by omega) act.pos hcl
  have HGo : Hid ((enterP R.top act.pos S).go m = ((V, 0), m1) ∧ RM (g + 1) m1 R.top S P V (A.set act.pos.toNat V) B ∧ m1.count ≤ m.count + 5) := ⟨e1, hr1.more (by omega), n1⟩
  have HLen : Hid ((A.set act.pos.toNat V).length = na ∧ B.length = nb) := ⟨by rw [List.length_set]; exact hna, hnb⟩
  have HC : Hid (isC A act.pos = true) := by rw [Hid, isC_len hr.al]; exact hcl
  have h1 := enter_E hM.dgo.sys (by omega) (HK.out _ _ _ _ _ hM.dgo).2.1 act.pos
  obtain ⟨⟨y0, y1, y2, y3, -⟩, -, ⟨a0, a1, a2, a3, a4⟩, ci⟩ := HK.out _ _ _ _ _ hM.dgo
  simp only [Nat.zero_add] at a0 a1 a2 a3 a4
  have HM := Lib.hid hM
  show Calls Tryd.prog 50 #[.pointer (some ⟨w.heap.size, 0, none⟩), .pointer (some ⟨wd.heap.size + 2, 0, none⟩), .pointer (some ⟨wd.heap.size, 0, none⟩), .pointer (some ⟨wd.heap.size + 1, 0, none⟩), .pointer (some ⟨wd.heap.size + 5, 0, none⟩), .pointer (some ⟨wd.heap.size + 3, 0, none⟩)] (w.alloc (portObj b)) _
  unfold Rg.v at h1
  clear he hr hg hc hrg hin hx hV hM hac hna hnb hcl e1 hr1 n1
  generalize hwp : w.alloc (portObj b) = wp at *
  generalize hnd : wd.heap.size = nd at *
  clear hwp hnd
  go_enter Tryd.func50, Tryd.ntmps50
  go_wp2_with fail
  refine h1.mono ?_
  rintro e w1 hE
  obtain ⟨rfl, t1, G1, hM1⟩ := HM.out.op2 hE HGo.out.1 HGo.out.2.1 HGo.out.2.2
  obtain ⟨⟨y0', y1', y2', y3', -⟩, -, ⟨a0', a1', a2', a3', a4'⟩, ci'⟩ := HK.out _ _ _ _ _ hM1.dgo
  simp only [Nat.zero_add] at a0' a1' a2' a3' a4'
  obtain ⟨x0, x1, x2, xz⟩ := hM1.bx
  rw [HNa.out.1] at x1
  rw [HNa.out.2] at x2
  have to0 := hM1.to
  have toz := hM1.fz
  have HM1 := Lib.hid hM1
  clear h1 hE y0 y1 y2 y3 a0 a1 a2 a3 a4 ci HM hM1
  have h2 := refslot_yes w1 x V A B HM1.out.is HL.out.1 act.pos V HC.out
  unfold Rs.v at h2
  rw [HNa.out.1, HNa.out.2] at h2
  go_wp2_with fail
  refine h2.mono ?_
  rintro e w2 ⟨x', rfl, hn⟩
  skip
  obtain ⟨⟨x0', x1', x2', xz'⟩, hM3⟩ := HM1.out.ref hn ⟨HLen.out.1.trans HNa.out.1.symm, HLen.out.2.trans HNa.out.2.symm⟩
  rw [HNa.out.1, HNa.out.2] at hM3
  rw [HNa.out.1] at x1'
  rw [HNa.out.2] at x2'
  have to0' := (HM1.out.later hn.2).to
  have toz' := (HM1.out.later hn.2).fz
  clear h2 hn x0 x1 x2 xz y0' y1' y2' y3' a0' a1' a2' a3' a4' ci' to0 toz
  have HW3 : Hid (∃ W, W = put3 w2 (nd + 1) V (.slice x'.sa na x'.sc) (.slice x'.pa nb x'.pc)) := ⟨_, rfl⟩
  obtain ⟨w3, hw3⟩ := HW3.out
  rw [← hw3] at hM3
  unfold put3 at hw3
  replace HW3 := Lib.hid hw3.symm
  clear hw3
  obtain ⟨⟨y0, y1, y2, y3, -⟩, -, ⟨a0, a1, a2, a3, a4⟩, ci⟩ := HK.out _ _ _ _ _ hM3.dgo
  simp only [Nat.zero_add] at a0 a1 a2 a3 a4
  obtain ⟨x0, x1, x2, xz⟩ := hM3.bx
  rw [HLen.out.1] at x1
  rw [HLen.out.2] at x2
  have to0 := hM3.to
  have toz := hM3.fz
  obtain ⟨m4, e4, hr4, n4, -⟩ := hM3.rm.least (by have := HL.out; omega) act.pos
  obtain ⟨m5, e5, hr5, n5, -⟩ := hr4.oldest act.pos
  have h4 := least_E hM3.dgo.sys (by have := hM3.cnt; have := HL.out; omega) (HK.out _ _ _ _ _ hM3.dgo).2.1 act.pos
  unfold Rg.v at h4
  have H4 := Lib.hid (⟨e4, hr4, n4, e5, hr5, n5⟩ : _ ∧ _ ∧ _ ∧ _ ∧ _ ∧ _)
  have HM3 := Lib.hid hM3
  clear hM3 e4 hr4 n4 e5 hr5 n5
  go_wp2_with (first | rw [HW3.out] | fail)
  refine h4.mono ?_
  rintro e w4 hE
  obtain ⟨rfl, t4, G4, hM4⟩ := HM3.out.op2 hE H4.out.1 H4.out.2.1 (q' := m.count + 340) (by have := H4.out.2.2.1; have := HM3.out.cnt; omega)
  have h5 := oldest_E hM4.dgo.sys (by have := hM4.cnt; have := HL.out; omega) (HK.out _ _ _ _ _ hM4.dgo).2.1 act.pos
  unfold Rg.v at h5
  obtain ⟨⟨z0, z1, z2, z3, -⟩, -, ⟨k0, k1, k2, k3, k4⟩, -⟩ := HK.out _ _ _ _ _ hM4.dgo
  simp only [Nat.zero_add] at k0 k1 k2 k3 k4
  have HM4 := Lib.hid hM4
  clear h4 hE hM4 HM3 y0 y1 y2 y3 a0 a1 a2 a3 a4 ci x0 x1 x2 xz to0 toz
  go_wp2_with fail
  refine h5.mono ?_
  rintro e w5 hE
  obtain ⟨rfl, t5, G5, hM5⟩ := HM4.out.op2 hE H4.out.2.2.2.1 H4.out.2.2.2.2.1 (q' := m.count + 410) (by have := H4.out.2.2.2.2.2; have := H4.out.2.2.1; have := HM4.out.cnt; omega)
  obtain ⟨⟨z0', z1', z2', z3', -⟩, -, ⟨k0', k1', k2', k3', k4'⟩, -⟩ := HK.out _ _ _ _ _ hM5.dgo
  simp only [Nat.zero_add] at k0' k1' k2' k3' k4'
  obtain ⟨x0, x1, x2, xz⟩ := hM5.bx
  have h6 := refleast_any w5 _ V _ _ hM5.is (by rw [HLen.out.1, ← HNa.out.1]; exact HL.out.1) (by rw [HLen.out.2, ← HNa.out.2]; exact HL.out.2.1) act.pos
  unfold Rs.v at h6
  rw [HLen.out.1] at x1
  rw [HLen.out.2] at x2
  rw [HLen.out.1, HLen.out.2] at h6
  have HM5 := Lib.hid hM5
  clear h5 hE hM5 HM4 z0 z1 z2 z3 k0 k1 k2 k3 k4 H4
  go_wp2_with fail
  refine h6.mono ?_
  rintro e w6 ⟨rfl, hb6⟩
  have hM6 := HM5.out.later hb6
  obtain ⟨⟨z0, z1, z2, z3, -⟩, -, ⟨k0, k1, k2, k3, k4⟩, -⟩ := HK.out _ _ _ _ _ hM6.dgo
  simp only [Nat.zero_add] at k0 k1 k2 k3 k4
  have h7 := refoldest_any w6 _ V _ _ hM6.is (by rw [HLen.out.1, ← HNa.out.1]; exact HL.out.1) act.pos
  unfold Rs.v at h7
  clear x0 x1 x2 xz
  obtain ⟨x0, x1, x2, xz⟩ := hM6.bx
  rw [HLen.out.1] at x1
  rw [HLen.out.2] at x2
  rw [HLen.out.1, HLen.out.2] at h7
  have HM6 := Lib.hid hM6
  clear h6 hb6 hM6 HM5 z0' z1' z2' z3' k0' k1' k2' k3' k4'
  go_wp2_with fail
  refine h7.mono ?_
  rintro e w7 ⟨rfl, hb7⟩
  have HE := Lib.hid ((HM6.out.later hb7).out (by decide) (by decide))
  clear h7 hb7 HM6 z0 z1 z2 z3 k0 k1 k2 k3 k4 x0 x1 x2 xz
  go_wp2
  go_ret
  exact ⟨_, rfl, rfl, HE.out⟩
set_option maxHeartbeats 4000000 in
theorem act_1b {w0 wd w : World} {b c r : Nat} {G : List (Nat × List Sw)} {m : M} {R : Rg} {S P A : List Int} {B : List (Int × Int)} {g V id : Int} {x : Rs} {act : Ac} {K : Nat → Prop} (he : HasE w0 b c r G wd m) (hr : RM g m R.top S P V A B) (hg : g ≤ 15000) (hc : m.count ≤ 600000) (hrg : RgL w0 b c r G wd R S P) (hin : DIn w0 b c r G wd w R act id x V A.length B.length) (hx : RIs (fun z => LocM w0 b c r G wd z ∧ K z) wd x A B) (hV : 0 ≤ V ∧ V ≤ 1000000) (_hid : id < 9223372036854775808) (ha : act.act % 7 = 1) (hac : 0 ≤ act.act ∧ act.act ≤ 255) (hcl : ¬ isC S act.pos = true) :
    Calls Tryd.prog 50 (#[.pointer (some ⟨w.heap.size, 0, none⟩)] ++ #[.pointer (some ⟨wd.heap.size + 2, 0, none⟩), .pointer (some ⟨wd.heap.size, 0, none⟩), .pointer (some ⟨wd.heap.size + 1, 0, none⟩), .pointer (some ⟨wd.heap.size + 5, 0, none⟩), .pointer (some ⟨wd.heap.size + 3, 0, none⟩)]) (w.alloc (portObj b)) fun e w' => ∃ u, e = .returned u ∧ u = .iface 4 (.bool true) ∧ POut K w0 b c r G w wd.heap.size R.top S P (g + 1) V (m.count + 410) w' := by
  have hM := PMid.start hin he hr hx
  have HK := Lib.hid (fun (t1 : Value) (G1 : List (Nat × List Sw)) (w1 : World) (m1 : M) (s1 : Pt) (hd : Dgo w0 b c r w.heap.size [b, c, r, wd.heap.size + 1, wd.heap.size + 5] w t1 G G1 w1 m1 s1) => hin.read he hrg rfl hd)
  have HL : Hid (A.length ≤ 64 ∧ B.length ≤ 64 ∧ A.length = S.length ∧ B.length = P.length ∧ V ≤ 1000000 ∧ 0 ≤ V ∧ g ≤ 15000 ∧ m.count ≤ 600000 ∧ ∀ y ∈ B, 0 ≤ y.1 ∧ y.1 ≤ 100000) := ⟨by rw [hr.al]; exact hr.sf, by rw [hr.bl]; exact hr.pf, hr.al, hr.bl, hV.2, hV.1, hg, hc, fun y hy => by have := hr.bv y hy; omega⟩
  obtain ⟨na, hna⟩ : ∃ n, A.length = n := ⟨_, rfl⟩
  obtain ⟨nb, hnb⟩ : ∃ n, B.length = n := ⟨_, rfl⟩
  have HNa := Lib.hid (⟨hna, hnb⟩ : _ ∧ _)
  have hac1 := hac.1
  have hac2 := hac.2
  have HV := Lib.hid hV
  have hmk := mkb4
  obtain ⟨m1, e1, hr1, n1⟩ := hr.enter_all (by omega) act.pos
  rw [if_neg hcl, if_neg hcl] at e1
  rw [if_neg hcl] at hr1
  have HGo : Hid ((enterP R.top act.pos S).go m = ((0, 10), m1) ∧ RM (g + 1) m1 R.top S P V A B ∧ m1.count ≤ m.count + 5) := ⟨e1, hr1.more (by omega), n1⟩
  have HLen : Hid (A.length = na ∧ B.length = nb) := HNa
  have HC : Hid (isC A act.pos = false) := by rw [Hid, isC_len hr.al]; simpa using hcl
  have h1 := enter_E hM.dgo.sys (by omega) (HK.out _ _ _ _ _ hM.dgo).2.1 act.pos
  obtain ⟨⟨y0, y1, y2, y3, -⟩, -, ⟨a0, a1, a2, a3, a4⟩, ci⟩ := HK.out _ _ _ _ _ hM.dgo
  simp only [Nat.zero_add] at a0 a1 a2 a3 a4
  have HM := Lib.hid hM
  show Calls Tryd.prog 50 #[.pointer (some ⟨w.heap.size, 0, none⟩), .pointer (some ⟨wd.heap.size + 2, 0, none⟩), .pointer (some ⟨wd.heap.size, 0, none⟩), .pointer (some ⟨wd.heap.size + 1, 0, none⟩), .pointer (some ⟨wd.heap.size + 5, 0, none⟩), .pointer (some ⟨wd.heap.size + 3, 0, none⟩)] (w.alloc (portObj b)) _
  unfold Rg.v at h1
  clear he hr hg hc hrg hin hx hV hM hac hna hnb hcl e1 hr1 n1
  generalize hwp : w.alloc (portObj b) = wp at *
  generalize hnd : wd.heap.size = nd at *
  clear hwp hnd
  go_enter Tryd.func50, Tryd.ntmps50
  go_wp2_with fail
  refine h1.mono ?_
  rintro e w1 hE
  obtain ⟨rfl, t1, G1, hM1⟩ := HM.out.op2 hE HGo.out.1 HGo.out.2.1 HGo.out.2.2
  obtain ⟨⟨y0', y1', y2', y3', -⟩, -, ⟨a0', a1', a2', a3', a4'⟩, ci'⟩ := HK.out _ _ _ _ _ hM1.dgo
  simp only [Nat.zero_add] at a0' a1' a2' a3' a4'
  obtain ⟨x0, x1, x2, xz⟩ := hM1.bx
  rw [HNa.out.1] at x1
  rw [HNa.out.2] at x2
  have to0 := hM1.to
  have toz := hM1.fz
  have HM1 := Lib.hid hM1
  clear h1 hE y0 y1 y2 y3 a0 a1 a2 a3 a4 ci HM hM1
  have h2 := refslot_no w1 x V A B HM1.out.is HL.out.1 act.pos V HC.out
  unfold Rs.v at h2
  rw [HNa.out.1, HNa.out.2] at h2
  go_wp2_with fail
  refine h2.mono ?_
  rintro e w2 ⟨rfl, hn⟩
  obtain ⟨x', hx'⟩ : ∃ x', x' = x := ⟨_, rfl⟩
  rw [← hx'] at hn ⊢
  clear hx'
  obtain ⟨⟨x0', x1', x2', xz'⟩, hM3⟩ := HM1.out.ref hn ⟨HLen.out.1.trans HNa.out.1.symm, HLen.out.2.trans HNa.out.2.symm⟩
  rw [HNa.out.1, HNa.out.2] at hM3
  rw [HNa.out.1] at x1'
  rw [HNa.out.2] at x2'
  have to0' := (HM1.out.later hn.2).to
  have toz' := (HM1.out.later hn.2).fz
  clear h2 hn x0 x1 x2 xz y0' y1' y2' y3' a0' a1' a2' a3' a4' ci' to0 toz
  have HW3 : Hid (∃ W, W = put3 w2 (nd + 1) V (.slice x'.sa na x'.sc) (.slice x'.pa nb x'.pc)) := ⟨_, rfl⟩
  obtain ⟨w3, hw3⟩ := HW3.out
  rw [← hw3] at hM3
  unfold put3 at hw3
  replace HW3 := Lib.hid hw3.symm
  clear hw3
  obtain ⟨⟨y0, y1, y2, y3, -⟩, -, ⟨a0, a1, a2, a3, a4⟩, ci⟩ := HK.out _ _ _ _ _ hM3.dgo
  simp only [Nat.zero_add] at a0 a1 a2 a3 a4
  obtain ⟨x0, x1, x2, xz⟩ := hM3.bx
  rw [HLen.out.1] at x1
  rw [HLen.out.2] at x2
  have to0 := hM3.to
  have toz := hM3.fz
  obtain ⟨m4, e4, hr4, n4, -⟩ := hM3.rm.least (by have := HL.out; omega) act.pos
  obtain ⟨m5, e5, hr5, n5, -⟩ := hr4.oldest act.pos
  have h4 := least_E hM3.dgo.sys (by have := hM3.cnt; have := HL.out; omega) (HK.out _ _ _ _ _ hM3.dgo).2.1 act.pos
  unfold Rg.v at h4
  have H4 := Lib.hid (⟨e4, hr4, n4, e5, hr5, n5⟩ : _ ∧ _ ∧ _ ∧ _ ∧ _ ∧ _)
  have HM3 := Lib.hid hM3
  clear hM3 e4 hr4 n4 e5 hr5 n5
  go_wp2_with (first | rw [HW3.out] | fail)
  refine h4.mono ?_
  rintro e w4 hE
  obtain ⟨rfl, t4, G4, hM4⟩ := HM3.out.op2 hE H4.out.1 H4.out.2.1 (q' := m.count + 340) (by have := H4.out.2.2.1; have := HM3.out.cnt; omega)
  have h5 := oldest_E hM4.dgo.sys (by have := hM4.cnt; have := HL.out; omega) (HK.out _ _ _ _ _ hM4.dgo).2.1 act.pos
  unfold Rg.v at h5
  obtain ⟨⟨z0, z1, z2, z3, -⟩, -, ⟨k0, k1, k2, k3, k4⟩, -⟩ := HK.out _ _ _ _ _ hM4.dgo
  simp only [Nat.zero_add] at k0 k1 k2 k3 k4
  have HM4 := Lib.hid hM4
  clear h4 hE hM4 HM3 y0 y1 y2 y3 a0 a1 a2 a3 a4 ci x0 x1 x2 xz to0 toz
  go_wp2_with fail
  refine h5.mono ?_
  rintro e w5 hE
  obtain ⟨rfl, t5, G5, hM5⟩ := HM4.out.op2 hE H4.out.2.2.2.1 H4.out.2.2.2.2.1 (q' := m.count + 410) (by have := H4.out.2.2.2.2.2; have := H4.out.2.2.1; have := HM4.out.cnt; omega)
  obtain ⟨⟨z0', z1', z2', z3', -⟩, -, ⟨k0', k1', k2', k3', k4'⟩, -⟩ := HK.out _ _ _ _ _ hM5.dgo
  simp only [Nat.zero_add] at k0' k1' k2' k3' k4'
  obtain ⟨x0, x1, x2, xz⟩ := hM5.bx
  have h6 := refleast_any w5 _ V _ _ hM5.is (by rw [HLen.out.1, ← HNa.out.1]; exact HL.out.1) (by rw [HLen.out.2, ← HNa.out.2]; exact HL.out.2.1) act.pos
  unfold Rs.v at h6
  rw [HLen.out.1] at x1
  rw [HLen.out.2] at x2
  rw [HLen.out.1, HLen.out.2] at h6
  have HM5 := Lib.hid hM5
  clear h5 hE hM5 HM4 z0 z1 z2 z3 k0 k1 k2 k3 k4 H4
  go_wp2_with fail
  refine h6.mono ?_
  rintro e w6 ⟨rfl, hb6⟩
  have hM6 := HM5.out.later hb6
  obtain ⟨⟨z0, z1, z2, z3, -⟩, -, ⟨k0, k1, k2, k3, k4⟩, -⟩ := HK.out _ _ _ _ _ hM6.dgo
  simp only [Nat.zero_add] at k0 k1 k2 k3 k4
  have h7 := refoldest_any w6 _ V _ _ hM6.is (by rw [HLen.out.1, ← HNa.out.1]; exact HL.out.1) act.pos
  unfold Rs.v at h7
  clear x0 x1 x2 xz
  obtain ⟨x0, x1, x2, xz⟩ := hM6.bx
  rw [HLen.out.1] at x1
  rw [HLen.out.2] at x2
  rw [HLen.out.1, HLen.out.2] at h7
  have HM6 := Lib.hid hM6
  clear h6 hb6 hM6 HM5 z0' z1' z2' z3' k0' k1' k2' k3' k4'
  go_wp2_with fail
  refine h7.mono ?_
  rintro e w7 ⟨rfl, hb7⟩
  have HE := Lib.hid ((HM6.out.later hb7).out (by decide) (by decide))
  clear h7 hb7 HM6 z0 z1 z2 z3 k0 k1 k2 k3 k4 x0 x1 x2 xz
  go_wp2
  go_ret
  exact ⟨_, rfl, rfl, HE.out⟩
set_option maxHeartbeats 4000000 in
theorem act_2a {w0 wd w : World} {b c r : Nat} {G : List (Nat × List Sw)} {m : M} {R : Rg} {S P A : List Int} {B : List (Int × Int)} {g V id : Int} {x : Rs} {act : Ac} {K : Nat → Prop} (he : HasE w0 b c r G wd m) (hr : RM g m R.top S P V A B) (hg : g ≤ 15000) (hc : m.count ≤ 600000) (hrg : RgL w0 b c r G wd R S P) (hin : DIn w0 b c r G wd w R act id x V A.length B.length) (hx : RIs (fun z => LocM w0 b c r G wd z ∧ K z) wd x A B) (hV : 0 ≤ V ∧ V ≤ 1000000) (_hid : id < 9223372036854775808) (ha : act.act % 7 = 2) (hac : 0 ≤ act.act ∧ act.act ≤ 255) (hv : act.m < 0) :
    Calls Tryd.prog 50 (#[.pointer (some ⟨w.heap.size, 0, none⟩)] ++ #[.pointer (some ⟨wd.heap.size + 2, 0, none⟩), .pointer (some ⟨wd.heap.size, 0, none⟩), .pointer (some ⟨wd.heap.size + 1, 0, none⟩), .pointer (some ⟨wd.heap.size + 5, 0, none⟩), .pointer (some ⟨wd.heap.size + 3, 0, none⟩)]) (w.alloc (portObj b)) fun e w' => ∃ u, e = .returned u ∧ u = .iface 4 (.bool true) ∧ POut K w0 b c r G w wd.heap.size R.top S P (g + 1) V (m.count + 410) w' := by
  have hM := PMid.start hin he hr hx
  have HK := Lib.hid (fun (t1 : Value) (G1 : List (Nat × List Sw)) (w1 : World) (m1 : M) (s1 : Pt) (hd : Dgo w0 b c r w.heap.size [b, c, r, wd.heap.size + 1, wd.heap.size + 5] w t1 G G1 w1 m1 s1) => hin.read he hrg rfl hd)
  have HL : Hid (A.length ≤ 64 ∧ B.length ≤ 64 ∧ A.length = S.length ∧ B.length = P.length ∧ V ≤ 1000000 ∧ 0 ≤ V ∧ g ≤ 15000 ∧ m.count ≤ 600000 ∧ ∀ y ∈ B, 0 ≤ y.1 ∧ y.1 ≤ 100000) := ⟨by rw [hr.al]; exact hr.sf, by rw [hr.bl]; exact hr.pf, hr.al, hr.bl, hV.2, hV.1, hg, hc, fun y hy => by have := hr.bv y hy; omega⟩
  obtain ⟨na, hna⟩ : ∃ n, A.length = n := ⟨_, rfl⟩
  obtain ⟨nb, hnb⟩ : ∃ n, B.length = n := ⟨_, rfl⟩
  have HNa := Lib.hid (⟨hna, hnb⟩ : _ ∧ _)
  have hac1 := hac.1
  have hac2 := hac.2
  have HV := Lib.hid hV
  have hmk := mkb4
  have hcv : ¬ (isC S act.pos = true ∧ isV act.m = true) := fun h => by have := of_decide_eq_true h.2; omega
  obtain ⟨m1, e1, hr1, n1⟩ := hr.hold_all act.pos act.m
  rw [if_neg hcv] at e1 hr1
  have HGo : Hid ((holdP act.pos act.m S).go m = (10, m1) ∧ RM (g + 1) m1 R.top S P V A B ∧ m1.count ≤ m.count + 5) := ⟨e1, hr1.more (by omega), n1⟩
  have h1 := hold_E hM.dgo.sys (by omega) (HK.out _ _ _ _ _ hM.dgo).2.1 act.pos act.m
  obtain ⟨⟨y0, y1, y2, y3, -⟩, -, ⟨a0, a1, a2, a3, a4⟩, ci⟩ := HK.out _ _ _ _ _ hM.dgo
  simp only [Nat.zero_add] at a0 a1 a2 a3 a4
  have HM := Lib.hid hM
  show Calls Tryd.prog 50 #[.pointer (some ⟨w.heap.size, 0, none⟩), .pointer (some ⟨wd.heap.size + 2, 0, none⟩), .pointer (some ⟨wd.heap.size, 0, none⟩), .pointer (some ⟨wd.heap.size + 1, 0, none⟩), .pointer (some ⟨wd.heap.size + 5, 0, none⟩), .pointer (some ⟨wd.heap.size + 3, 0, none⟩)] (w.alloc (portObj b)) _
  unfold Rg.v at h1
  clear he hr hg hc hrg hin hx hV hM hac hna hnb e1 hr1 n1 hcv
  generalize hwp : w.alloc (portObj b) = wp at *
  generalize hnd : wd.heap.size = nd at *
  clear hwp hnd
  go_enter Tryd.func50, Tryd.ntmps50
  go_wp2_with fail
  refine h1.mono ?_
  rintro e w1 hE
  obtain ⟨rfl, t1, G1, hM1⟩ := HM.out.op1 hE HGo.out.1 HGo.out.2.1 HGo.out.2.2
  obtain ⟨⟨y0', y1', y2', y3', -⟩, -, ⟨a0', a1', a2', a3', a4'⟩, ci'⟩ := HK.out _ _ _ _ _ hM1.dgo
  simp only [Nat.zero_add] at a0' a1' a2' a3' a4'
  obtain ⟨x0, x1, x2, xz⟩ := hM1.bx
  rw [HNa.out.1] at x1
  rw [HNa.out.2] at x2
  have to0 := hM1.to
  have toz := hM1.fz
  have HM1 := Lib.hid hM1
  clear h1 hE y0 y1 y2 y3 a0 a1 a2 a3 a4 ci HM hM1
  have hM3 := HM1.out
  have HLen : Hid (A.length = na ∧ B.length = nb) := HNa
  have y0 := y0'
  have y1 := y1'
  have y2 := y2'
  have y3 := y3'
  have a0 := a0'
  have a1 := a1'
  have a2 := a2'
  have a3 := a3'
  have a4 := a4'
  have ci := ci'
  clear y0' y1' y2' y3' a0' a1' a2' a3' a4' ci'
  obtain ⟨m4, e4, hr4, n4, -⟩ := hM3.rm.least (by have := HL.out; omega) act.pos
  obtain ⟨m5, e5, hr5, n5, -⟩ := hr4.oldest act.pos
  have h4 := least_E hM3.dgo.sys (by have := hM3.cnt; have := HL.out; omega) (HK.out _ _ _ _ _ hM3.dgo).2.1 act.pos
  unfold Rg.v at h4
  have H4 := Lib.hid (⟨e4, hr4, n4, e5, hr5, n5⟩ : _ ∧ _ ∧ _ ∧ _ ∧ _ ∧ _)
  have HM3 := Lib.hid hM3
  clear hM3 e4 hr4 n4 e5 hr5 n5
  go_wp2_with (first | fail)
  refine h4.mono ?_
  rintro e w4 hE
  obtain ⟨rfl, t4, G4, hM4⟩ := HM3.out.op2 hE H4.out.1 H4.out.2.1 (q' := m.count + 340) (by have := H4.out.2.2.1; have := HM3.out.cnt; omega)
  have h5 := oldest_E hM4.dgo.sys (by have := hM4.cnt; have := HL.out; omega) (HK.out _ _ _ _ _ hM4.dgo).2.1 act.pos
  unfold Rg.v at h5
  obtain ⟨⟨z0, z1, z2, z3, -⟩, -, ⟨k0, k1, k2, k3, k4⟩, -⟩ := HK.out _ _ _ _ _ hM4.dgo
  simp only [Nat.zero_add] at k0 k1 k2 k3 k4
  have HM4 := Lib.hid hM4
  clear h4 hE hM4 HM3 y0 y1 y2 y3 a0 a1 a2 a3 a4 ci x0 x1 x2 xz to0 toz
  go_wp2_with fail
  refine h5.mono ?_
  rintro e w5 hE
  obtain ⟨rfl, t5, G5, hM5⟩ := HM4.out.op2 hE H4.out.2.2.2.1 H4.out.2.2.2.2.1 (q' := m.count + 410) (by have := H4.out.2.2.2.2.2; have := H4.out.2.2.1; have := HM4.out.cnt; omega)
  obtain ⟨⟨z0', z1', z2', z3', -⟩, -, ⟨k0', k1', k2', k3', k4'⟩, -⟩ := HK.out _ _ _ _ _ hM5.dgo
  simp only [Nat.zero_add] at k0' k1' k2' k3' k4'
  obtain ⟨x0, x1, x2, xz⟩ := hM5.bx
  have h6 := refleast_any w5 _ V _ _ hM5.is (by rw [HLen.out.1, ← HNa.out.1]; exact HL.out.1) (by rw [HLen.out.2, ← HNa.out.2]; exact HL.out.2.1) act.pos
  unfold Rs.v at h6
  rw [HLen.out.1] at x1
  rw [HLen.out.2] at x2
  rw [HLen.out.1, HLen.out.2] at h6
  have HM5 := Lib.hid hM5
  clear h5 hE hM5 HM4 z0 z1 z2 z3 k0 k1 k2 k3 k4 H4
  go_wp2_with fail
  refine h6.mono ?_
  rintro e w6 ⟨rfl, hb6⟩
  have hM6 := HM5.out.later hb6
  obtain ⟨⟨z0, z1, z2, z3, -⟩, -, ⟨k0, k1, k2, k3, k4⟩, -⟩ := HK.out _ _ _ _ _ hM6.dgo
  simp only [Nat.zero_add] at k0 k1 k2 k3 k4
  have h7 := refoldest_any w6 _ V _ _ hM6.is (by rw [HLen.out.1, ← HNa.out.1]; exact HL.out.1) act.pos
  unfold Rs.v at h7
  clear x0 x1 x2 xz
  obtain ⟨x0, x1, x2, xz⟩ := hM6.bx
  rw [HLen.out.1] at x1
  rw [HLen.out.2] at x2
  rw [HLen.out.1, HLen.out.2] at h7
  have HM6 := Lib.hid hM6
  clear h6 hb6 hM6 HM5 z0' z1' z2' z3' k0' k1' k2' k3' k4'
  go_wp2_with fail
  refine h7.mono ?_
  rintro e w7 ⟨rfl, hb7⟩
  have HE := Lib.hid ((HM6.out.later hb7).out (by decide) (by decide))
  clear h7 hb7 HM6 z0 z1 z2 z3 k0 k1 k2 k3 k4 x0 x1 x2 xz
  go_wp2
  go_ret
  exact ⟨_, rfl, rfl, HE.out⟩
set_option maxHeartbeats 4000000 in
theorem act_2b {w0 wd w : World} {b c r : Nat} {G : List (Nat × List Sw)} {m : M} {R : Rg} {S P A : List Int} {B : List (Int × Int)} {g V id : Int} {x : Rs} {act : Ac} {K : Nat → Prop} (he : HasE w0 b c r G wd m) (hr : RM g m R.top S P V A B) (hg : g ≤ 15000) (hc : m.count ≤ 600000) (hrg : RgL w0 b c r G wd R S P) (hin : DIn w0 b c r G wd w R act id x V A.length B.length) (hx : RIs (fun z => LocM w0 b c r G wd z ∧ K z) wd x A B) (hV : 0 ≤ V ∧ V ≤ 1000000) (_hid : id < 9223372036854775808) (ha : act.act % 7 = 2) (hac : 0 ≤ act.act ∧ act.act ≤ 255) (hv : 1073741824 < act.m) :
    Calls Tryd.prog 50 (#[.pointer (some ⟨w.heap.size, 0, none⟩)] ++ #[.pointer (some ⟨wd.heap.size + 2, 0, none⟩), .pointer (some ⟨wd.heap.size, 0, none⟩), .pointer (some ⟨wd.heap.size + 1, 0, none⟩), .pointer (some ⟨wd.heap.size + 5, 0, none⟩), .pointer (some ⟨wd.heap.size + 3, 0, none⟩)]) (w.alloc (portObj b)) fun e w' => ∃ u, e = .returned u ∧ u = .iface 4 (.bool true) ∧ POut K w0 b c r G w wd.heap.size R.top S P (g + 1) V (m.count + 410) w' := by
  have hM := PMid.start hin he hr hx
  have HK := Lib.hid (fun (t1 : Value) (G1 : List (Nat × List Sw)) (w1 : World) (m1 : M) (s1 : Pt) (hd : Dgo w0 b c r w.heap.size [b, c, r, wd.heap.size + 1, wd.heap.size + 5] w t1 G G1 w1 m1 s1) => hin.read he hrg rfl hd)
  have HL : Hid (A.length ≤ 64 ∧ B.length ≤ 64 ∧ A.length = S.length ∧ B.length = P.length ∧ V ≤ 1000000 ∧ 0 ≤ V ∧ g ≤ 15000 ∧ m.count ≤ 600000 ∧ ∀ y ∈ B, 0 ≤ y.1 ∧ y.1 ≤ 100000) := ⟨by rw [hr.al]; exact hr.sf, by rw [hr.bl]; exact hr.pf, hr.al, hr.bl, hV.2, hV.1, hg, hc, fun y hy => by have := hr.bv y hy; omega⟩
  obtain ⟨na, hna⟩ : ∃ n, A.length = n := ⟨_, rfl⟩
  obtain ⟨nb, hnb⟩ : ∃ n, B.length = n := ⟨_, rfl⟩
  have HNa := Lib.hid (⟨hna, hnb⟩ : _ ∧ _)
  have hac1 := hac.1
  have hac2 := hac.2
  have HV := Lib.hid hV
  have hmk := mkb4
  have hcv : ¬ (isC S act.pos = true ∧ isV act.m = true) := fun h => by have := of_decide_eq_true h.2; omega
  obtain ⟨m1, e1, hr1, n1⟩ := hr.hold_all act.pos act.m
  rw [if_neg hcv] at e1 hr1
  have HGo : Hid ((holdP act.pos act.m S).go m = (10, m1) ∧ RM (g + 1) m1 R.top S P V A B ∧ m1.count ≤ m.count + 5) := ⟨e1, hr1.more (by omega), n1⟩
  have hv0 : 0 ≤ act.m := by omega
  have h1 := hold_E hM.dgo.sys (by omega) (HK.out _ _ _ _ _ hM.dgo).2.1 act.pos act.m
  obtain ⟨⟨y0, y1, y2, y3, -⟩, -, ⟨a0, a1, a2, a3, a4⟩, ci⟩ := HK.out _ _ _ _ _ hM.dgo
  simp only [Nat.zero_add] at a0 a1 a2 a3 a4
  have HM := Lib.hid hM
  show Calls Tryd.prog 50 #[.pointer (some ⟨w.heap.size, 0, none⟩), .pointer (some ⟨wd.heap.size + 2, 0, none⟩), .pointer (some ⟨wd.heap.size, 0, none⟩), .pointer (some ⟨wd.heap.size + 1, 0, none⟩), .pointer (some ⟨wd.heap.size + 5, 0, none⟩), .pointer (some ⟨wd.heap.size + 3, 0, none⟩)] (w.alloc (portObj b)) _
  unfold Rg.v at h1
  clear he hr hg hc hrg hin hx hV hM hac hna hnb e1 hr1 n1 hcv
  generalize hwp : w.alloc (portObj b) = wp at *
  generalize hnd : wd.heap.size = nd at *
  clear hwp hnd
  go_enter Tryd.func50, Tryd.ntmps50
  go_wp2_with fail
  refine h1.mono ?_
  rintro e w1 hE
  obtain ⟨rfl, t1, G1, hM1⟩ := HM.out.op1 hE HGo.out.1 HGo.out.2.1 HGo.out.2.2
  obtain ⟨⟨y0', y1', y2', y3', -⟩, -, ⟨a0', a1', a2', a3', a4'⟩, ci'⟩ := HK.out _ _ _ _ _ hM1.dgo
  simp only [Nat.zero_add] at a0' a1' a2' a3' a4'
  obtain ⟨x0, x1, x2, xz⟩ := hM1.bx
  rw [HNa.out.1] at x1
  rw [HNa.out.2] at x2
  have to0 := hM1.to
  have toz := hM1.fz
  have HM1 := Lib.hid hM1
  clear h1 hE y0 y1 y2 y3 a0 a1 a2 a3 a4 ci HM hM1
  have hM3 := HM1.out
  have HLen : Hid (A.length = na ∧ B.length = nb) := HNa
  have y0 := y0'
  have y1 := y1'
  have y2 := y2'
  have y3 := y3'
  have a0 := a0'
  have a1 := a1'
  have a2 := a2'
  have a3 := a3'
  have a4 := a4'
  have ci := ci'
  clear y0' y1' y2' y3' a0' a1' a2' a3' a4' ci'
  obtain ⟨m4, e4, hr4, n4, -⟩ := hM3.rm.least (by have := HL.out; omega) act.pos
  obtain ⟨m5, e5, hr5, n5, -⟩ := hr4.oldest act.pos
  have h4 := least_E hM3.dgo.sys (by have := hM3.cnt; have := HL.out; omega) (HK.out _ _ _ _ _ hM3.dgo).2.1 act.pos
  unfold Rg.v at h4
  have H4 := Lib.hid (⟨e4, hr4, n4, e5, hr5, n5⟩ : _ ∧ _ ∧ _ ∧ _ ∧ _ ∧ _)
  have HM3 := Lib.hid hM3
  clear hM3 e4 hr4 n4 e5 hr5 n5
  go_wp2_with (first | fail)
  refine h4.mono ?_
  rintro e w4 hE
  obtain ⟨rfl, t4, G4, hM4⟩ := HM3.out.op2 hE H4.out.1 H4.out.2.1 (q' := m.count + 340) (by have := H4.out.2.2.1; have := HM3.out.cnt; omega)
  have h5 := oldest_E hM4.dgo.sys (by have := hM4.cnt; have := HL.out; omega) (HK.out _ _ _ _ _ hM4.dgo).2.1 act.pos
  unfold Rg.v at h5
  obtain ⟨⟨z0, z1, z2, z3, -⟩, -, ⟨k0, k1, k2, k3, k4⟩, -⟩ := HK.out _ _ _ _ _ hM4.dgo
  simp only [Nat.zero_add] at k0 k1 k2 k3 k4
  have HM4 := Lib.hid hM4
  clear h4 hE hM4 HM3 y0 y1 y2 y3 a0 a1 a2 a3 a4 ci x0 x1 x2 xz to0 toz
  go_wp2_with fail
  refine h5.mono ?_
  rintro e w5 hE
  obtain ⟨rfl, t5, G5, hM5⟩ := HM4.out.op2 hE H4.out.2.2.2.1 H4.out.2.2.2.2.1 (q' := m.count + 410) (by have := H4.out.2.2.2.2.2; have := H4.out.2.2.1; have := HM4.out.cnt; omega)
  obtain ⟨⟨z0', z1', z2', z3', -⟩, -, ⟨k0', k1', k2', k3', k4'⟩, -⟩ := HK.out _ _ _ _ _ hM5.dgo
  simp only [Nat.zero_add] at k0' k1' k2' k3' k4'
  obtain ⟨x0, x1, x2, xz⟩ := hM5.bx
  have h6 := refleast_any w5 _ V _ _ hM5.is (by rw [HLen.out.1, ← HNa.out.1]; exact HL.out.1) (by rw [HLen.out.2, ← HNa.out.2]; exact HL.out.2.1) act.pos
  unfold Rs.v at h6
  rw [HLen.out.1] at x1
  rw [HLen.out.2] at x2
  rw [HLen.out.1, HLen.out.2] at h6
  have HM5 := Lib.hid hM5
  clear h5 hE hM5 HM4 z0 z1 z2 z3 k0 k1 k2 k3 k4 H4
  go_wp2_with fail
  refine h6.mono ?_
  rintro e w6 ⟨rfl, hb6⟩
  have hM6 := HM5.out.later hb6
  obtain ⟨⟨z0, z1, z2, z3, -⟩, -, ⟨k0, k1, k2, k3, k4⟩, -⟩ := HK.out _ _ _ _ _ hM6.dgo
  simp only [Nat.zero_add] at k0 k1 k2 k3 k4
  have h7 := refoldest_any w6 _ V _ _ hM6.is (by rw [HLen.out.1, ← HNa.out.1]; exact HL.out.1) act.pos
  unfold Rs.v at h7
  clear x0 x1 x2 xz
  obtain ⟨x0, x1, x2, xz⟩ := hM6.bx
  rw [HLen.out.1] at x1
  rw [HLen.out.2] at x2
  rw [HLen.out.1, HLen.out.2] at h7
  have HM6 := Lib.hid hM6
  clear h6 hb6 hM6 HM5 z0' z1' z2' z3' k0' k1' k2' k3' k4'
  go_wp2_with fail
  refine h7.mono ?_
  rintro e w7 ⟨rfl, hb7⟩
  have HE := Lib.hid ((HM6.out.later hb7).out (by decide) (by decide))
  clear h7 hb7 HM6 z0 z1 z2 z3 k0 k1 k2 k3 k4 x0 x1 x2 xz
  go_wp2
  go_ret
  exact ⟨_, rfl, rfl, HE.out⟩
set_option maxHeartbeats 4000000 in
theorem act_2c {w0 wd w : World} {b c r : Nat} {G : List (Nat × List Sw)} {m : M} {R : Rg} {S P A : List Int} {B : List (Int × Int)} {g V id : Int} {x : Rs} {act : Ac} {K : Nat → Prop} (he : HasE w0 b c r G wd m) (hr : RM g m R.top S P V A B) (hg : g ≤ 15000) (hc : m.count ≤ 600000) (hrg : RgL w0 b c r G wd R S P) (hin : DIn w0 b c r G wd w R act id x V A.length B.length) (hx : RIs (fun z => LocM w0 b c r G wd z ∧ K z) wd x A B) (hV : 0 ≤ V ∧ V ≤ 1000000) (_hid : id < 9223372036854775808) (ha : act.act % 7 = 2) (hac : 0 ≤ act.act ∧ act.act ≤ 255) (hv : 0 ≤ act.m ∧ act.m ≤ 1073741824) :
    Calls Tryd.prog 50 (#[.pointer (some ⟨w.heap.size, 0, none⟩)] ++ #[.pointer (some ⟨wd.heap.size + 2, 0, none⟩), .pointer (some ⟨wd.heap.size, 0, none⟩), .pointer (some ⟨wd.heap.size + 1, 0, none⟩), .pointer (some ⟨wd.heap.size + 5, 0, none⟩), .pointer (some ⟨wd.heap.size + 3, 0, none⟩)]) (w.alloc (portObj b)) fun e w' => ∃ u, e = .returned u ∧ u = .iface 4 (.bool true) ∧ POut K w0 b c r G w wd.heap.size R.top S P (g + 1) V (m.count + 410) w' := by
  have hM := PMid.start hin he hr hx
  have HK := Lib.hid (fun (t1 : Value) (G1 : List (Nat × List Sw)) (w1 : World) (m1 : M) (s1 : Pt) (hd : Dgo w0 b c r w.heap.size [b, c, r, wd.heap.size + 1, wd.heap.size + 5] w t1 G G1 w1 m1 s1) => hin.read he hrg rfl hd)
  have HL : Hid (A.length ≤ 64 ∧ B.length ≤ 64 ∧ A.length = S.length ∧ B.length = P.length ∧ V ≤ 1000000 ∧ 0 ≤ V ∧ g ≤ 15000 ∧ m.count ≤ 600000 ∧ ∀ y ∈ B, 0 ≤ y.1 ∧ y.1 ≤ 100000) := ⟨by rw [hr.al]; exact hr.sf, by rw [hr.bl]; exact hr.pf, hr.al, hr.bl, hV.2, hV.1, hg, hc, fun y hy => by have := hr.bv y hy; omega⟩
  obtain ⟨na, hna⟩ : ∃ n, A.length = n := ⟨_, rfl⟩
  obtain ⟨nb, hnb⟩ : ∃ n, B.length = n := ⟨_, rfl⟩
  have HNa := Lib.hid (⟨hna, hnb⟩ : _ ∧ _)
  have hac1 := hac.1
  have hac2 := hac.2
  have HV := Lib.hid hV
  have hmk := mkb4
  have hiv : isV act.m = true := decide_eq_true hv
  obtain ⟨m1, e1, hr1, n1⟩ := hr.hold_all act.pos act.m
  rw [hiv] at e1 hr1
  simp only [and_true] at e1 hr1
  have hv0 := hv.1
  have hv1 := hv.2
  obtain ⟨er, her⟩ : ∃ er : Int, er = if isC S act.pos = true then 0 else 10 := ⟨_, rfl⟩
  obtain ⟨A2, hA2⟩ : ∃ A2 : List Int, A2 = if isC S act.pos = true then A.set act.pos.toNat act.m else A := ⟨_, rfl⟩
  rw [← her] at e1
  rw [← hA2] at hr1
  have HGo : Hid ((holdP act.pos act.m S).go m = (er, m1) ∧ RM (g + 1) m1 R.top S P V A2 B ∧ m1.count ≤ m.count + 5) := ⟨e1, hr1.more (by omega), n1⟩
  have HLen : Hid (A2.length = na ∧ B.length = nb) := ⟨by rw [hA2]; split <;> simp [hna], hnb⟩
  have HC := Lib.hid (isC_len hr.al act.pos)
  have HEq := Lib.hid (⟨her, hA2⟩ : _ ∧ _)
  have h1 := hold_E hM.dgo.sys (by omega) (HK.out _ _ _ _ _ hM.dgo).2.1 act.pos act.m
  obtain ⟨⟨y0, y1, y2, y3, -⟩, -, ⟨a0, a1, a2, a3, a4⟩, ci⟩ := HK.out _ _ _ _ _ hM.dgo
  simp only [Nat.zero_add] at a0 a1 a2 a3 a4
  have HM := Lib.hid hM
  show Calls Tryd.prog 50 #[.pointer (some ⟨w.heap.size, 0, none⟩), .pointer (some ⟨wd.heap.size + 2, 0, none⟩), .pointer (some ⟨wd.heap.size, 0, none⟩), .pointer (some ⟨wd.heap.size + 1, 0, none⟩), .pointer (some ⟨wd.heap.size + 5, 0, none⟩), .pointer (some ⟨wd.heap.size + 3, 0, none⟩)] (w.alloc (portObj b)) _
  unfold Rg.v at h1
  clear he hr hg hc hrg hin hx hV hM hac hna hnb hv hiv e1 hr1 n1 her hA2
  generalize hwp : w.alloc (portObj b) = wp at *
  generalize hnd : wd.heap.size = nd at *
  clear hwp hnd
  go_enter Tryd.func50, Tryd.ntmps50
  go_wp2_with fail
  refine h1.mono ?_
  rintro e w1 hE
  obtain ⟨rfl, t1, G1, hM1⟩ := HM.out.op1 hE HGo.out.1 HGo.out.2.1 HGo.out.2.2
  obtain ⟨⟨y0', y1', y2', y3', -⟩, -, ⟨a0', a1', a2', a3', a4'⟩, ci'⟩ := HK.out _ _ _ _ _ hM1.dgo
  simp only [Nat.zero_add] at a0' a1' a2' a3' a4'
  obtain ⟨x0, x1, x2, xz⟩ := hM1.bx
  rw [HNa.out.1] at x1
  rw [HNa.out.2] at x2
  have to0 := hM1.to
  have toz := hM1.fz
  have HM1 := Lib.hid hM1
  clear h1 hE y0 y1 y2 y3 a0 a1 a2 a3 a4 ci HM hM1
  have h2 := refslot_any w1 x V A B HM1.out.is HL.out.1 act.pos act.m
  rw [HC.out, ← HEq.out.1, ← HEq.out.2] at h2
  unfold Rs.v at h2
  rw [HNa.out.1, HNa.out.2] at h2
  go_wp2_with fail
  refine h2.mono ?_
  rintro e w2 ⟨x', rfl, hn⟩
  skip
  obtain ⟨⟨x0', x1', x2', xz'⟩, hM3⟩ := HM1.out.ref hn ⟨HLen.out.1.trans HNa.out.1.symm, HLen.out.2.trans HNa.out.2.symm⟩
  rw [HNa.out.1, HNa.out.2] at hM3
  rw [HNa.out.1] at x1'
  rw [HNa.out.2] at x2'
  have to0' := (HM1.out.later hn.2).to
  have toz' := (HM1.out.later hn.2).fz
  clear h2 hn x0 x1 x2 xz y0' y1' y2' y3' a0' a1' a2' a3' a4' ci' to0 toz
  have HW3 : Hid (∃ W, W = put3 w2 (nd + 1) V (.slice x'.sa na x'.sc) (.slice x'.pa nb x'.pc)) := ⟨_, rfl⟩
  obtain ⟨w3, hw3⟩ := HW3.out
  rw [← hw3] at hM3
  unfold put3 at hw3
  replace HW3 := Lib.hid hw3.symm
  clear hw3
  obtain ⟨⟨y0, y1, y2, y3, -⟩, -, ⟨a0, a1, a2, a3, a4⟩, ci⟩ := HK.out _ _ _ _ _ hM3.dgo
  simp only [Nat.zero_add] at a0 a1 a2 a3 a4
  obtain ⟨x0, x1, x2, xz⟩ := hM3.bx
  rw [HLen.out.1] at x1
  rw [HLen.out.2] at x2
  have to0 := hM3.to
  have toz := hM3.fz
  obtain ⟨m4, e4, hr4, n4, -⟩ := hM3.rm.least (by have := HL.out; omega) act.pos
  obtain ⟨m5, e5, hr5, n5, -⟩ := hr4.oldest act.pos
  have h4 := least_E hM3.dgo.sys (by have := hM3.cnt; have := HL.out; omega) (HK.out _ _ _ _ _ hM3.dgo).2.1 act.pos
  unfold Rg.v at h4
  have H4 := Lib.hid (⟨e4, hr4, n4, e5, hr5, n5⟩ : _ ∧ _ ∧ _ ∧ _ ∧ _ ∧ _)
  have HM3 := Lib.hid hM3
  clear hM3 e4 hr4 n4 e5 hr5 n5
  go_wp2_with (first | rw [HW3.out] | fail)
  refine h4.mono ?_
  rintro e w4 hE
  obtain ⟨rfl, t4, G4, hM4⟩ := HM3.out.op2 hE H4.out.1 H4.out.2.1 (q' := m.count + 340) (by have := H4.out.2.2.1; have := HM3.out.cnt; omega)
  have h5 := oldest_E hM4.dgo.sys (by have := hM4.cnt; have := HL.out; omega) (HK.out _ _ _ _ _ hM4.dgo).2.1 act.pos
  unfold Rg.v at h5
  obtain ⟨⟨z0, z1, z2, z3, -⟩, -, ⟨k0, k1, k2, k3, k4⟩, -⟩ := HK.out _ _ _ _ _ hM4.dgo
  simp only [Nat.zero_add] at k0 k1 k2 k3 k4
  have HM4 := Lib.hid hM4
  clear h4 hE hM4 HM3 y0 y1 y2 y3 a0 a1 a2 a3 a4 ci x0 x1 x2 xz to0 toz
  go_wp2_with fail
  refine h5.mono ?_
  rintro e w5 hE
  obtain ⟨rfl, t5, G5, hM5⟩ := HM4.out.op2 hE H4.out.2.2.2.1 H4.out.2.2.2.2.1 (q' := m.count + 410) (by have := H4.out.2.2.2.2.2; have := H4.out.2.2.1; have := HM4.out.cnt; omega)
  obtain ⟨⟨z0', z1', z2', z3', -⟩, -, ⟨k0', k1', k2', k3', k4'⟩, -⟩ := HK.out _ _ _ _ _ hM5.dgo
  simp only [Nat.zero_add] at k0' k1' k2' k3' k4'
  obtain ⟨x0, x1, x2, xz⟩ := hM5.bx
  have h6 := refleast_any w5 _ V _ _ hM5.is (by rw [HLen.out.1, ← HNa.out.1]; exact HL.out.1) (by rw [HLen.out.2, ← HNa.out.2]; exact HL.out.2.1) act.pos
  unfold Rs.v at h6
  rw [HLen.out.1] at x1
  rw [HLen.out.2] at x2
  rw [HLen.out.1, HLen.out.2] at h6
  have HM5 := Lib.hid hM5
  clear h5 hE hM5 HM4 z0 z1 z2 z3 k0 k1 k2 k3 k4 H4
  go_wp2_with fail
  refine h6.mono ?_
  rintro e w6 ⟨rfl, hb6⟩
  have hM6 := HM5.out.later hb6
  obtain ⟨⟨z0, z1, z2, z3, -⟩, -, ⟨k0, k1, k2, k3, k4⟩, -⟩ := HK.out _ _ _ _ _ hM6.dgo
  simp only [Nat.zero_add] at k0 k1 k2 k3 k4
  have h7 := refoldest_any w6 _ V _ _ hM6.is (by rw [HLen.out.1, ← HNa.out.1]; exact HL.out.1) act.pos
  unfold Rs.v at h7
  clear x0 x1 x2 xz
  obtain ⟨x0, x1, x2, xz⟩ := hM6.bx
  rw [HLen.out.1] at x1
  rw [HLen.out.2] at x2
  rw [HLen.out.1, HLen.out.2] at h7
  have HM6 := Lib.hid hM6
  clear h6 hb6 hM6 HM5 z0' z1' z2' z3' k0' k1' k2' k3' k4'
  go_wp2_with fail
  refine h7.mono ?_
  rintro e w7 ⟨rfl, hb7⟩
  have HE := Lib.hid ((HM6.out.later hb7).out (by decide) (by decide))
  clear h7 hb7 HM6 z0 z1 z2 z3 k0 k1 k2 k3 k4 x0 x1 x2 xz
  go_wp2
  go_ret
  exact ⟨_, rfl, rfl, HE.out⟩
set_option maxHeartbeats 4000000 in
theorem act_3 {w0 wd w : World} {b c r : Nat} {G : List (Nat × List Sw)} {m : M} {R : Rg} {S P A : List Int} {B : List (Int × Int)} {g V id : Int} {x : Rs} {act : Ac} {K : Nat → Prop} (he : HasE w0 b c r G wd m) (hr : RM g m R.top S P V A B) (hg : g ≤ 15000) (hc : m.count ≤ 600000) (hrg : RgL w0 b c r G wd R S P) (hin : DIn w0 b c r G wd w R act id x V A.length B.length) (hx : RIs (fun z => LocM w0 b c r G wd z ∧ K z) wd x A B) (hV : 0 ≤ V ∧ V ≤ 1000000) (_hid : id < 9223372036854775808) (ha : act.act % 7 = 3) (hac : 0 ≤ act.act ∧ act.act ≤ 255) :
    Calls Tryd.prog 50 (#[.pointer (some ⟨w.heap.size, 0, none⟩)] ++ #[.pointer (some ⟨wd.heap.size + 2, 0, none⟩), .pointer (some ⟨wd.heap.size, 0, none⟩), .pointer (some ⟨wd.heap.size + 1, 0, none⟩), .pointer (some ⟨wd.heap.size + 5, 0, none⟩), .pointer (some ⟨wd.heap.size + 3, 0, none⟩)]) (w.alloc (portObj b)) fun e w' => ∃ u, e = .returned u ∧ u = .iface 4 (.bool true) ∧ POut K w0 b c r G w wd.heap.size R.top S P (g + 1) V (m.count + 410) w' := by
  have hM := PMid.start hin he hr hx
  have HK := Lib.hid (fun (t1 : Value) (G1 : List (Nat × List Sw)) (w1 : World) (m1 : M) (s1 : Pt) (hd : Dgo w0 b c r w.heap.size [b, c, r, wd.heap.size + 1, wd.heap.size + 5] w t1 G G1 w1 m1 s1) => hin.read he hrg rfl hd)
  have HL : Hid (A.length ≤ 64 ∧ B.length ≤ 64 ∧ A.length = S.length ∧ B.length = P.length ∧ V ≤ 1000000 ∧ 0 ≤ V ∧ g ≤ 15000 ∧ m.count ≤ 600000 ∧ ∀ y ∈ B, 0 ≤ y.1 ∧ y.1 ≤ 100000) := ⟨by rw [hr.al]; exact hr.sf, by rw [hr.bl]; exact hr.pf, hr.al, hr.bl, hV.2, hV.1, hg, hc, fun y hy => by have := hr.bv y hy; omega⟩
  obtain ⟨na, hna⟩ : ∃ n, A.length = n := ⟨_, rfl⟩
  obtain ⟨nb, hnb⟩ : ∃ n, B.length = n := ⟨_, rfl⟩
  have HNa := Lib.hid (⟨hna, hnb⟩ : _ ∧ _)
  have hac1 := hac.1
  have hac2 := hac.2
  have HV := Lib.hid hV
  have hmk := mkb4
  obtain ⟨m1, e1, hr1, n1⟩ := hr.leave_all act.pos
  obtain ⟨er, her⟩ : ∃ er : Int, er = if isC S act.pos = true then 0 else 10 := ⟨_, rfl⟩
  obtain ⟨A2, hA2⟩ : ∃ A2 : List Int, A2 = if isC S act.pos = true then A.set act.pos.toNat (-1) else A := ⟨_, rfl⟩
  rw [← her] at e1
  rw [← hA2] at hr1
  have HGo : Hid ((leaveP act.pos S).go m = (er, m1) ∧ RM (g + 1) m1 R.top S P V A2 B ∧ m1.count ≤ m.count + 5) := ⟨e1, hr1.more (by omega), n1⟩
  have HLen : Hid (A2.length = na ∧ B.length = nb) := ⟨by rw [hA2]; split <;> simp [hna], hnb⟩
  have HC := Lib.hid (isC_len hr.al act.pos)
  have HEq := Lib.hid (⟨her, hA2⟩ : _ ∧ _)
  have h1 := leave_E hM.dgo.sys (by omega) (HK.out _ _ _ _ _ hM.dgo).2.1 act.pos
  obtain ⟨⟨y0, y1, y2, y3, -⟩, -, ⟨a0, a1, a2, a3, a4⟩, ci⟩ := HK.out _ _ _ _ _ hM.dgo
  simp only [Nat.zero_add] at a0 a1 a2 a3 a4
  have HM := Lib.hid hM
  show Calls Tryd.prog 50 #[.pointer (some ⟨w.heap.size, 0, none⟩), .pointer (some ⟨wd.heap.size + 2, 0, none⟩), .pointer (some ⟨wd.heap.size, 0, none⟩), .pointer (some ⟨wd.heap.size + 1, 0, none⟩), .pointer (some ⟨wd.heap.size + 5, 0, none⟩), .pointer (some ⟨wd.heap.size + 3, 0, none⟩)] (w.alloc (portObj b)) _
  unfold Rg.v at h1
  clear he hr hg hc hrg hin hx hV hM hac hna hnb e1 hr1 n1 her hA2
  generalize hwp : w.alloc (portObj b) = wp at *
  generalize hnd : wd.heap.size = nd at *
  clear hwp hnd
  go_enter Tryd.func50, Tryd.ntmps50
  go_wp2_with fail
  refine h1.mono ?_
  rintro e w1 hE
  obtain ⟨rfl, t1, G1, hM1⟩ := HM.out.op1 hE HGo.out.1 HGo.out.2.1 HGo.out.2.2
  obtain ⟨⟨y0', y1', y2', y3', -⟩, -, ⟨a0', a1', a2', a3', a4'⟩, ci'⟩ := HK.out _ _ _ _ _ hM1.dgo
  simp only [Nat.zero_add] at a0' a1' a2' a3' a4'
  obtain ⟨x0, x1, x2, xz⟩ := hM1.bx
  rw [HNa.out.1] at x1
  rw [HNa.out.2] at x2
  have to0 := hM1.to
  have toz := hM1.fz
  have HM1 := Lib.hid hM1
  clear h1 hE y0 y1 y2 y3 a0 a1 a2 a3 a4 ci HM hM1
  have h2 := refslot_any w1 x V A B HM1.out.is HL.out.1 act.pos (-1)
  rw [HC.out, ← HEq.out.1, ← HEq.out.2] at h2
  unfold Rs.v at h2
  rw [HNa.out.1, HNa.out.2] at h2
  go_wp2_with fail
  refine h2.mono ?_
  rintro e w2 ⟨x', rfl, hn⟩
  skip
  obtain ⟨⟨x0', x1', x2', xz'⟩, hM3⟩ := HM1.out.ref hn ⟨HLen.out.1.trans HNa.out.1.symm, HLen.out.2.trans HNa.out.2.symm⟩
  rw [HNa.out.1, HNa.out.2] at hM3
  rw [HNa.out.1] at x1'
  rw [HNa.out.2] at x2'
  have to0' := (HM1.out.later hn.2).to
  have toz' := (HM1.out.later hn.2).fz
  clear h2 hn x0 x1 x2 xz y0' y1' y2' y3' a0' a1' a2' a3' a4' ci' to0 toz
  have HW3 : Hid (∃ W, W = put3 w2 (nd + 1) V (.slice x'.sa na x'.sc) (.slice x'.pa nb x'.pc)) := ⟨_, rfl⟩
  obtain ⟨w3, hw3⟩ := HW3.out
  rw [← hw3] at hM3
  unfold put3 at hw3
  replace HW3 := Lib.hid hw3.symm
  clear hw3
  obtain ⟨⟨y0, y1, y2, y3, -⟩, -, ⟨a0, a1, a2, a3, a4⟩, ci⟩ := HK.out _ _ _ _ _ hM3.dgo
  simp only [Nat.zero_add] at a0 a1 a2 a3 a4
  obtain ⟨x0, x1, x2, xz⟩ := hM3.bx
  rw [HLen.out.1] at x1
  rw [HLen.out.2] at x2
  have to0 := hM3.to
  have toz := hM3.fz
  obtain ⟨m4, e4, hr4, n4, -⟩ := hM3.rm.least (by have := HL.out; omega) act.pos
  obtain ⟨m5, e5, hr5, n5, -⟩ := hr4.oldest act.pos
  have h4 := least_E hM3.dgo.sys (by have := hM3.cnt; have := HL.out; omega) (HK.out _ _ _ _ _ hM3.dgo).2.1 act.pos
  unfold Rg.v at h4
  have H4 := Lib.hid (⟨e4, hr4, n4, e5, hr5, n5⟩ : _ ∧ _ ∧ _ ∧ _ ∧ _ ∧ _)
  have HM3 := Lib.hid hM3
  clear hM3 e4 hr4 n4 e5 hr5 n5
  go_wp2_with (first | rw [HW3.out] | fail)
  refine h4.mono ?_
  rintro e w4 hE
  obtain ⟨rfl, t4, G4, hM4⟩ := HM3.out.op2 hE H4.out.1 H4.out.2.1 (q' := m.count + 340) (by have := H4.out.2.2.1; have := HM3.out.cnt; omega)
  have h5 := oldest_E hM4.dgo.sys (by have := hM4.cnt; have := HL.out; omega) (HK.out _ _ _ _ _ hM4.dgo).2.1 act.pos
  unfold Rg.v at h5
  obtain ⟨⟨z0, z1, z2, z3, -⟩, -, ⟨k0, k1, k2, k3, k4⟩, -⟩ := HK.out _ _ _ _ _ hM4.dgo
  simp only [Nat.zero_add] at k0 k1 k2 k3 k4
  have HM4 := Lib.hid hM4
  clear h4 hE hM4 HM3 y0 y1 y2 y3 a0 a1 a2 a3 a4 ci x0 x1 x2 xz to0 toz
  go_wp2_with fail
  refine h5.mono ?_
  rintro e w5 hE
  obtain ⟨rfl, t5, G5, hM5⟩ := HM4.out.op2 hE H4.out.2.2.2.1 H4.out.2.2.2.2.1 (q' := m.count + 410) (by have := H4.out.2.2.2.2.2; have := H4.out.2.2.1; have := HM4.out.cnt; omega)
  obtain ⟨⟨z0', z1', z2', z3', -⟩, -, ⟨k0', k1', k2', k3', k4'⟩, -⟩ := HK.out _ _ _ _ _ hM5.dgo
  simp only [Nat.zero_add] at k0' k1' k2' k3' k4'
  obtain ⟨x0, x1, x2, xz⟩ := hM5.bx
  have h6 := refleast_any w5 _ V _ _ hM5.is (by rw [HLen.out.1, ← HNa.out.1]; exact HL.out.1) (by rw [HLen.out.2, ← HNa.out.2]; exact HL.out.2.1) act.pos
  unfold Rs.v at h6
  rw [HLen.out.1] at x1
  rw [HLen.out.2] at x2
  rw [HLen.out.1, HLen.out.2] at h6
  have HM5 := Lib.hid hM5
  clear h5 hE hM5 HM4 z0 z1 z2 z3 k0 k1 k2 k3 k4 H4
  go_wp2_with fail
  refine h6.mono ?_
  rintro e w6 ⟨rfl, hb6⟩
  have hM6 := HM5.out.later hb6
  obtain ⟨⟨z0, z1, z2, z3, -⟩, -, ⟨k0, k1, k2, k3, k4⟩, -⟩ := HK.out _ _ _ _ _ hM6.dgo
  simp only [Nat.zero_add] at k0 k1 k2 k3 k4
  have h7 := refoldest_any w6 _ V _ _ hM6.is (by rw [HLen.out.1, ← HNa.out.1]; exact HL.out.1) act.pos
  unfold Rs.v at h7
  clear x0 x1 x2 xz
  obtain ⟨x0, x1, x2, xz⟩ := hM6.bx
  rw [HLen.out.1] at x1
  rw [HLen.out.2] at x2
  rw [HLen.out.1, HLen.out.2] at h7
  have HM6 := Lib.hid hM6
  clear h6 hb6 hM6 HM5 z0' z1' z2' z3' k0' k1' k2' k3' k4'
  go_wp2_with fail
  refine h7.mono ?_
  rintro e w7 ⟨rfl, hb7⟩
  have HE := Lib.hid ((HM6.out.later hb7).out (by decide) (by decide))
  clear h7 hb7 HM6 z0 z1 z2 z3 k0 k1 k2 k3 k4 x0 x1 x2 xz
  go_wp2
  go_ret
  exact ⟨_, rfl, rfl, HE.out⟩
end Go.Proofs.YtgjkkbgdkdipgaaDoor
