/- For any number rundlelaw17.TowerRefuses returns true. Condition: the library's table stands. -/
import Derived.Test.YtibimnibmengpaaDoorVj
namespace Go.Proofs.YtibimnibmengpaaDoor
open Go.RowKit Go.Op
set_option maxRecDepth 100000

theorem lowsB : lowsOf [⟨#[98]⟩] = [⟨#[]⟩, ⟨#[98]⟩] := by
  have h : ssOf [⟨#[98]⟩] = [⟨#[98]⟩] := by
    simp [ssOf]
  rw [lowsOf, h]
  decide
set_option maxHeartbeats 4000000 in
theorem refusesLaw (w : World) (hT : TabAt w) (k : Int) (_ : (Lit.int .i64 k).wf = true) : Calls Tryd.prog 8 #[.int .i64 k] w fun e w' => e = .returned (.bool true) ∧ Below w.heap.size w w' := by
  obtain ⟨wx, hwx⟩ : ∃ W, W = w.alloc (.cells #[.int .i64 k] 3) := ⟨_, rfl⟩
  obtain ⟨wa, hwa⟩ : ∃ W, W = wx.alloc (.cells #[.string ⟨#[98]⟩] 9) := ⟨_, rfl⟩
  have hzx : wx.heap.size = w.heap.size + 1 := by rw [hwx]; simp
  have hza : wa.heap.size = w.heap.size + 2 := by rw [hwa]; simp [hzx]
  have hbx : Below w.heap.size w wx := by rw [hwx]; exact (Below.refl _ _).alloc (Nat.le_refl _) _
  have hbxa : Below wx.heap.size wx wa := by rw [hwa]; exact (Below.refl _ _).alloc (Nat.le_refl _) _
  have hba : Below w.heap.size w wa := hbx.trans (hbxa.mono (by omega))
  have sk : SVar wa w.heap.size [.int .i64 k] := by
    have : SVar wx w.heap.size [.int .i64 k] := by rw [hwx]; exact snew _ _ _
    exact this.later hbxa
  have s1 : SVar wa (w.heap.size + 1) [.string ⟨#[98]⟩] := by
    have := snew wx [.string ⟨#[98]⟩] 9
    rw [hzx] at this
    rw [hwa]; exact this
  have hl := lay_any wa (hT.below hba) (.slice (some ⟨w.heap.size + 1, 0, none⟩) 1 1) none 0 [⟨#[98]⟩] [] (by decide) (.inr ⟨⟨w.heap.size + 1, 0, none⟩, 1, rfl, .inr ⟨w.heap.size + 1, 0, rfl, s1.lt, s1.at_⟩⟩) ⟨fun b hb => (by cases hb), .inl rfl⟩ (by decide)
  have HW : Hid ((w.alloc (.cells #[.int .i64 k] 3)).alloc (.cells #[.string ⟨#[98]⟩] 9) = wa) := by
    show _ = _
    rw [← hwx]; exact hwa.symm
  have HB := Lib.hid (⟨hba, hza, sk, hT⟩ : _ ∧ _ ∧ _ ∧ _)
  clear hT hzx hza hbx hbxa hba s1 sk hwx hwa
  go_enter Tryd.func8, Tryd.ntmps8
  go_wp2_with (first | rw [HW.out] | fail)
  refine hl.mono ?_
  rintro e w1 ⟨⟨b, c, r, G, m, y, l, rfl, hY⟩, hb1⟩
  obtain ⟨w2, hw2⟩ : ∃ W, W = w1.alloc (.cells y.row.toArray 29) := ⟨_, rfl⟩
  have hb2 : Below w1.heap.size w1 w2 := by rw [hw2]; exact (Below.refl _ _).alloc (Nat.le_refl _) _
  obtain ⟨gl, ol, cl, gt, ot, ct, gh, oh, ch, ey, hyw⟩ := hY.yw (W := w2) (by decide) hb2 (by rw [hw2]; exact hY.has.fresh (.cells y.row.toArray 29)) (by rw [hw2]; exact snew _ _ _)
  have h1 : (htsOf [] (lowsOf [⟨#[98]⟩]).length)[0]? = some 1 := hts_nil _ (by rw [lowsB]; decide)
  generalize htsOf [] (lowsOf [⟨#[98]⟩]).length = hts at *
  rw [lowsB] at hyw ey
  simp only [List.length_cons, List.length_nil, Nat.reduceAdd] at hyw ey
  have HW2 := Lib.hid hw2.symm
  have hbw : Below w.heap.size w w2 := (HB.out.1.trans (hb1.mono (by have := HB.out.2.1; omega))).trans (hb2.mono (by have := HB.out.2.1; have := hb1.size; omega))
  have hbwa : Below wa.heap.size wa w2 := hb1.trans (hb2.mono hb1.size)
  have haw := awake_any w2 (HB.out.2.2.2.below hbw)
  have hgeo := hyw.has.ge
  have HX := Lib.hid (⟨hyw, hbw, HB.out.2.2.1.later hbwa, h1, hgeo.1, hgeo.2.1, hgeo.2.2.1⟩ : _ ∧ _ ∧ _ ∧ _ ∧ _ ∧ _ ∧ _)
  subst ey
  have ay := as4_yes
  unfold Yr.v
  simp only [Yr.row] at HW2
  clear hl hb1 hw2 hb2 hY hyw hbw hgeo hbwa h1
  go_wp2_with (first | rw [HW2.out] | fail)
  refine haw.mono ?_
  rintro e w3 ⟨rfl, hb3⟩
  obtain ⟨hyw, hbw, sk, h1, hg1, hg2, hg3⟩ := HX.out
  have hyw3 := hyw.later hb3
  have hll : l.length = 2 := hyw3.good.ll
  obtain ⟨x0, hx0⟩ : ∃ x, l[0]? = some x := ⟨_, List.getElem?_eq_getElem (by omega)⟩
  obtain ⟨x1, hx1⟩ : ∃ x, l[1]? = some x := ⟨_, List.getElem?_eq_getElem (by omega)⟩
  have c3 := hyw3.var.cell (i := 3) rfl
  have c0 := hyw3.var.cell (i := 0) rfl
  have sk3 := sk.later hb3
  have ck := sk3.cell (i := 0) rfl
  have ch0 : w3.cell? ⟨gh, oh, none⟩ = some (.int .i64 x0.h) := (hyw3.has.rowE hyw3.ha rfl (ints_get (l := l.map Nod.h) (i := 0) (by rw [List.getElem?_map, hx0]; rfl))).1
  have ch1 : w3.cell? ⟨gh, oh + 1, none⟩ = some (.int .i64 x1.h) := (hyw3.has.rowE hyw3.ha rfl (ints_get (l := l.map Nod.h) (i := 1) (by rw [List.getElem?_map, hx1]; rfl))).1
  have HE3 := Lib.hid (fun nq => (hbw.trans (hb3.mono hbw.size)).trans (below_drewN w3 nq))
  have mixed : Tryd.prog.follows .mixedOrders = true := by kernel_rfl
  by_cases e0 : k = x0.h
  · subst e0
    clear haw hyw hbw sk h1 hg1 hg2 hg3 hyw3 hll hx0 hx1 c0 sk3 hb3 HX
    go_wp2_with fail
    go_quiet (fail)
    go_wp2_with fail
    go_ret
    exact ⟨rfl, HE3.out _⟩
  have e0b : (k == x0.h) = false := by simpa using e0
  by_cases e1 : k = x1.h
  · subst e1
    clear haw hyw hbw sk h1 hg1 hg2 hg3 hyw3 hll hx0 hx1 c0 sk3 hb3 HX
    go_wp2_with fail
    go_quiet (fail)
    go_wp2_with fail
    go_ret
    exact ⟨rfl, HE3.out _⟩
  have e1b : (k == x1.h) = false := by simpa using e1
  have hk : k ∉ l.map Nod.h := fun hm => by
    obtain ⟨x, hx, e⟩ := List.mem_map.1 hm
    obtain ⟨i, hi⟩ := List.mem_iff_getElem?.1 hx
    have hil := (List.getElem?_eq_some_iff.1 hi).1
    by_cases i0 : i = 0
    · subst i0
      rw [hx0] at hi
      cases hi
      exact e0 e.symm
    · have i1 : i = 1 := by omega
      subst i1
      rw [hx1] at hi
      cases hi
      exact e1 e.symm
  have HD : Hid (∀ nq, Calls Tryd.prog 15 #[.pointer (some ⟨b, 0, none⟩), .func (.func 31) #[] #[.pointer (some ⟨w.heap.size, 0, none⟩), .pointer (some ⟨w1.heap.size, 0, none⟩)]] (w3.drewN nq) fun e w' => ∃ v, e = .returned v ∧ v = .iface 4 (.bool true) ∧ ButN [b, c, r] (w3.drewN nq).heap.size (w3.drewN nq) w') := fun nq =>
    do_any (w3.drewN nq) b 31 #[.pointer (some ⟨w.heap.size, 0, none⟩), .pointer (some ⟨w1.heap.size, 0, none⟩)] _ he31
      (refuses1_any (hyw3.later (below_drewN w3 nq)) k hk h1 (sk3.later (below_drewN w3 nq)) (by have := HB.out.2.1; simp only [List.mem_cons, List.not_mem_nil, or_false]; omega))
  have HG := Lib.hid (⟨hg1, hg2, hg3, HB.out.2.1⟩ : _ ∧ _ ∧ _ ∧ _)
  clear haw hyw hbw sk h1 hg1 hg2 hg3 hyw3 hll hx0 hx1 sk3 hb3 HX hk
  go_wp2_with fail
  go_quiet (fail)
  go_wp2_with fail
  refine (HD.out _).mono ?_
  rintro e w4 ⟨u, rfl, rfl, hbn⟩
  have HE : Hid (Below w.heap.size w w4) := by
    obtain ⟨q1, q2, q3, q4⟩ := HG.out
    have q5 := (HE3.out nq).size
    exact (HE3.out nq).trans ⟨hbn.os, hbn.tape, hbn.output, hbn.size, fun j hj => hbn.block j (by omega) (by simp only [List.mem_cons, List.not_mem_nil, or_false]; omega)⟩
  clear hbn HD
  go_wp2_with fail
  go_ret
  exact ⟨rfl, HE.out⟩
end Go.Proofs.YtibimnibmengpaaDoor
