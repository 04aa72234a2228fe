/- NodeKinds's law. Condition: the library's table stands. -/
import Derived.Test.YtbcpdkmbbgcfbaaDoorFf
namespace Go.Proofs.YtbcpdkmbbgcfbaaDoor
open Go.RowKit Go.Op
set_option maxRecDepth 100000

theorem ent_42 (xs : Array Value) (w : World) : (callFunc 42 xs).run Tryd.prog w = .ok (.enter 42 xs) w := by kernel_rfl
theorem vers12 : vers [1, 2].reverse = [5, 2] := by decide
/-- Within the loop that asks whether a number is a handle. -/
structure RawX (w w1 : World) (b c r : Nat) (G : List (Nat × List Value)) (m : M) (y : Yd) (zy zq zr : Nat) (q : Int) (hs : List Int) (i : Nat) (rb : Bool) (W : World) : Prop where
  has : HasE w1 b c r G W m
  below : Below w.heap.size w W
  sy : SVar W zy (Yd.row b y)
  sq : SVar W zq [.int .i64 q]
  sr : SVar W zr [.bool rb]
  raw : rb = true → ∀ j x, j < i → hs[j]? = some x → q ≠ x
theorem RawX.put {w w1 : World} {b c r : Nat} {G : List (Nat × List Value)} {m : M} {y : Yd} {zy zq zr : Nat} {q : Int} {hs : List Int} {i : Nat} {rb : Bool} {W : World} (h : RawX w w1 b c r G m y zy zq zr q hs i rb W) (hz : LocM w1 b c r G W zr) (hw : w.heap.size ≤ zr) (h1 : zy ≠ zr) (h2 : zq ≠ zr) {rb' : Bool} {i' : Nat} (hr : rb' = true → ∀ j x, j < i' → hs[j]? = some x → q ≠ x) :
    RawX w w1 b c r G m y zy zq zr q hs i' rb' (W.setCell ⟨zr, 0, none⟩ (.bool rb')) := by
  have hb : But zr W (W.setCell ⟨zr, 0, none⟩ (.bool rb')) := (But.refl _ _).set _ _
  exact ⟨h.has.aside hb ⟨hz.ne.1, hz.ne.2.1, hz.ne.2.2, hz.ge, hz.ng⟩, h.below.trans (hb.belowAt hw h.below.size), h.sy.same hb.size (hb.block _ h.sy.lt h1), h.sq.same hb.size (hb.block _ h.sq.lt h2), h.sr.set (i := 0) (by simp) _, hr⟩
theorem RawX.later {w w1 : World} {b c r : Nat} {G : List (Nat × List Value)} {m : M} {y : Yd} {zy zq zr : Nat} {q : Int} {hs : List Int} {i : Nat} {rb : Bool} {W W2 : World} (h : RawX w w1 b c r G m y zy zq zr q hs i rb W) (hb : Below W.heap.size W W2) : RawX w w1 b c r G m y zy zq zr q hs i rb W2 :=
  ⟨h.has.later hb, h.below.trans (hb.mono h.below.size), h.sy.later hb, h.sq.later hb, h.sr.later hb, h.raw⟩
set_option maxHeartbeats 2000000 in
theorem kinds_law (w : World) (hT : TabAt w) (q : Int) : Calls Tryd.prog 9 #[.int .i64 q] w fun e w' => e = .returned (.bool true) ∧ Below w.heap.size w w' := by
  obtain ⟨wa, hwa⟩ : ∃ W, W = w.alloc (.cells #[.int .i64 q] 3) := ⟨_, rfl⟩
  have hba : Below w.heap.size w wa := by rw [hwa]; exact (Below.refl _ _).alloc (Nat.le_refl _) _
  have hza : wa.heap.size = w.heap.size + 1 := by rw [hwa]; simp
  have sq : SVar wa w.heap.size [.int .i64 q] := by rw [hwa]; exact snew _ _ _
  obtain ⟨wb, hwb⟩ : ∃ W, W = wa.alloc (.cells #[.int .u8 1, .int .u8 2] 5) := ⟨_, rfl⟩
  have hbb : Below wa.heap.size wa wb := by rw [hwb]; exact (Below.refl _ _).alloc (Nat.le_refl _) _
  have hr : SVar wb wa.heap.size [.int .u8 1, .int .u8 2] := by rw [hwb]; exact snew wa [.int .u8 1, .int .u8 2] 5
  have hl := lay_any wb (hT.below (hba.trans (hbb.mono hba.size))) (a := some ⟨wa.heap.size, 0, none⟩) (cap := 2) [1, 2] (by decide) ⟨by decide, .inr ⟨wa.heap.size, 0, rfl, hr.lt, by simp, hr.at_⟩⟩
  have a4 := as4_yes
  have hm := hmf
  have HW := Lib.hid hwa.symm
  have HWb := Lib.hid hwb.symm
  have HT := Lib.hid hT
  have HA := Lib.hid (⟨hba, hbb, hza, sq⟩ : _ ∧ _ ∧ _ ∧ _)
  simp only [List.length_cons, List.length_nil, Nat.zero_add, Nat.reduceAdd] at hl
  clear hT hba hbb hza sq hr hwa hwb
  go_enter Tryd.func9, Tryd.ntmps9
  go_wp2_with (first | rw [HW.out] | rw [HWb.out] | fail)
  refine hl.mono ?_
  rintro e w1 ⟨⟨b, c, r, G, m, y, hd, p1, p2, l, rfl, hL⟩, hb1⟩
  have hvs := hL.vers
  rw [vers12] at hvs
  match l, hL, hvs with
  | [x0, x1], hL, hvs =>
  obtain ⟨hba, hbb, hza, sq⟩ := HA.out
  obtain ⟨w2, hw2⟩ : ∃ W, W = w1.alloc (.cells (Yd.row b y).toArray 29) := ⟨_, rfl⟩
  have hb2 : Below w1.heap.size w1 w2 := by rw [hw2]; exact (Below.refl _ _).alloc (Nat.le_refl _) _
  have hE2 := hL.has.later hb2
  have hy2 : SVar w2 w1.heap.size (Yd.row b y) := by rw [hw2]; exact snew _ _ _
  have hbw := hba.trans ((hbb.trans (hb1.mono hbb.size)).mono hba.size)
  have hbw2 := hbw.trans (hb2.mono hbw.size)
  have hsq2 := ((sq.later hbb).later hb1).later hb2
  have haw := awake_any w2 (HT.out.below hbw2)
  have HL := Lib.hid hL
  have HK := Lib.hid (⟨hE2, hy2, hbw2, hsq2, hza, hbb.size, hb1.size, (by rw [hw2]; simp : w2.heap.size = w1.heap.size + 1)⟩ : _ ∧ _ ∧ _ ∧ _ ∧ _ ∧ _ ∧ _ ∧ _)
  simp only [Yd.row] at hw2
  unfold Yd.v
  have HW2 := Lib.hid hw2.symm
  clear hl hL hb1 hb2 hE2 hy2 hw2 hvs hba hbb hza sq hbw hbw2 hsq2
  go_wp2_with (first | rw [HW2.out] | fail)
  refine haw.mono ?_
  rintro e w3 ⟨rfl, hb3⟩
  obtain ⟨hE2, hy2, hbw2, hsq2, hza, hs1, hs2, hs3⟩ := HK.out
  have hL := HL.out
  obtain ⟨w4, hw4⟩ : ∃ W, W = w3.alloc (.cells #[.bool true] 4) := ⟨_, rfl⟩
  have hb4 : Below w3.heap.size w3 w4 := by rw [hw4]; exact (Below.refl _ _).alloc (Nat.le_refl _) _
  have hE4 := (hE2.later hb3).later hb4
  have lz : LocM wb b c r G w4 w3.heap.size := by rw [hw4]; exact (hE2.later hb3).fresh _
  have hsr : SVar w4 w3.heap.size [.bool true] := by rw [hw4]; exact snew _ _ _
  have hs4 := hb3.size
  have hX0 : Hid (RawX w wb b c r G m y w1.heap.size w.heap.size w3.heap.size q [x0.1, x1.1] 0 true w4) := ⟨hE4, hbw2.trans ((hb3.trans (hb4.mono hb3.size)).mono hbw2.size), (hy2.later hb3).later hb4, (hsq2.later hb3).later hb4, hsr, fun _ j x hj => absurd hj (Nat.not_lt_zero _)⟩
  obtain ⟨g, o, ea, -⟩ := hE4.slcell (i := 0) hL.hs rfl
  have hhn := hL.hs.n
  rw [ints_length] at hhn
  have hhn2 : y.hs.n = 2 := hhn
  have HZ := Lib.hid (⟨lz, hza, hs1, hs2, hs3, hs4, ea, hhn2, (by rw [hw4]; simp : w4.heap.size = w3.heap.size + 1)⟩ : _ ∧ _ ∧ _ ∧ _ ∧ _ ∧ _ ∧ _ ∧ _ ∧ _)
  have HW4 := Lib.hid hw4.symm
  clear haw hb3 hE2 hy2 hbw2 hsq2 hza hs1 hs2 hs3 hL hw4 hb4 hE4 lz hsr hs4 ea hhn hhn2
  go_wp2_with (first | rw [HW4.out] | fail)
  go_loopw [6] (fun iv wr => ∃ (i : Nat) (rb : Bool), iv = .int .i64 (i : Int) ∧ i ≤ 2 ∧ Hid (RawX w wb b c r G m y w1.heap.size w.heap.size w3.heap.size q [x0.1, x1.1] i rb wr)) (fun iv _ => 2 - (intOf iv).toNat)
  case atStart => exact ⟨0, true, rfl, by omega, hX0⟩
  case round =>
    obtain ⟨i, rb, rfl, hi, hX⟩ := hrel
    obtain ⟨lz, hza, hs1, hs2, hs3, hs4, ea, hhn2, hs5⟩ := HZ.out
    have hx := hX.out
    have hsz : w3.heap.size < wr.heap.size := hx.sr.lt
    have lzr : LocM wb b c r G wr w3.heap.size := ⟨hsz, lz.ge, lz.ne, lz.ng⟩
    have c6 := hx.sy.cell (i := 6) rfl
    rw [hhn2, ea] at c6
    have cq := hx.sq.cell (i := 0) rfl
    have cr := hx.sr.cell (i := 0) rfl
    have fr := hx.sr.fz
    by_cases hin : i < 2
    · have hin2 : (i : Int) < 2 := by omega
      obtain ⟨x, hx2⟩ : ∃ x, ([x0.1, x1.1] : List Int)[i]? = some x := ⟨_, List.getElem?_eq_getElem (by simpa using hin)⟩
      obtain ⟨g', o', ea', cx⟩ := hx.has.slcell (i := i) HL.out.hs (x := .int .i64 x) (ints_get hx2)
      rw [ea] at ea'
      cases ea'
      have hP : ∀ (rb' : Bool), (rb' = true → rb = true ∧ q ≠ x) → ∀ W, Below wr.heap.size wr W → RawX w wb b c r G m y w1.heap.size w.heap.size w3.heap.size q [x0.1, x1.1] (i + 1) rb' (W.setCell ⟨w3.heap.size, 0, none⟩ (.bool rb')) := fun rb' hrb W hW => (hx.later hW).put (lzr.later hW.size (Grow.refl _ _)) (by omega) (by omega) (by omega) fun hr' j z hj hz => by
        obtain ⟨h1, h2⟩ := hrb hr'
        by_cases e : j = i
        · subst e
          rw [hx2] at hz
          cases hz
          exact h2
        · exact hx.raw h1 j z (by omega) hz
      have HP := Lib.hid hP
      clear lz hza hs1 hs2 hs3 hs4 ea hhn2 hs5 hx hsz lzr hx2 hP hX hX0 hi hin
      cases rb with
      | false =>
        go_wp2_with fail
        go_region
        all_goals
          go_wp2_with fail
          exact ⟨⟨i + 1, false, rfl, by omega, (HP.out false (by simp) wr (Below.refl _ _)).later (Below.refl _ _).drew⟩, by simp only [intOf]; omega⟩
      | true =>
        go_wp2_with fail
        go_region
        all_goals
          go_wp2_with fail
          exact ⟨⟨i + 1, q != x, rfl, by omega, (HP.out (q != x) (fun hr => ⟨by trivial, by simpa using hr⟩) wr (Below.refl _ _)).later (Below.refl _ _).drew⟩, by simp only [intOf]; omega⟩
    · have hin2 : ¬ ((i : Int) < 2) := by omega
      obtain rfl : i = 2 := by omega
      obtain ⟨g1, g2, g3⟩ := HL.out.has.lt
      have hcnt := HL.out.ym.cnt
      have hwx : w.heap.size < w1.heap.size := by omega
      have nq : w.heap.size ∉ [b, c, r] := by
        obtain ⟨z1, z2, z3, -⟩ := HL.out.has.ge
        simp only [List.mem_cons, List.not_mem_nil, or_false]; omega
      have hdo := do_any wr b 42 #[.pointer (some ⟨w1.heap.size, 0, none⟩), .pointer (some ⟨w.heap.size, 0, none⟩), .pointer (some ⟨w3.heap.size, 0, none⟩)] _ ent_42 (kinds1_any hx.has (by simp only [List.length_cons, List.length_nil] at hcnt; omega) HL.out.ym HL.out.n HL.out.hs q rb (fun hr => ⟨hx.raw hr 0 _ (by omega) rfl, hx.raw hr 1 _ (by omega) rfl⟩) hx.sy ⟨hx.sy.lt, by simp only [List.mem_cons, List.not_mem_nil, or_false]; omega⟩ cq ⟨hx.sq.lt, nq⟩ cr ⟨hsz, by simp only [List.mem_cons, List.not_mem_nil, or_false]; omega⟩)
      have c0 := hx.sy.cell (i := 0) rfl
      have HX := Lib.hid hx
      have HP := Lib.hid (⟨g1, g2, g3, hwx⟩ : _ ∧ _ ∧ _ ∧ _)
      clear lz hza hs1 hs2 hs3 hs4 ea hhn2 hs5 hx hsz lzr hX hX0 hi hin g1 g2 g3 nq hcnt hwx cr cq fr
      go_wp2_with fail
      refine hdo.mono ?_
      rintro e w5 ⟨u, rfl, rfl, G2, m2, hbn, hE5, hgr, hF⟩
      obtain ⟨g1, g2, g3, hwx⟩ := HP.out
      have hx := HX.out
      have hL := HL.out
      have hy5 : SVar w5 w1.heap.size (Yd.row b y) := hx.sy.same hbn.size (hbn.block _ hx.sy.lt (by simp only [List.mem_cons, List.not_mem_nil, or_false]; omega))
      have hver := laid_ver hL (by decide) (by decide)
      have hfit := fits_behind hL hE5 hgr.1 hF (by omega) (by simp) (by simp) hver
      have HE : Hid (∀ W, ButN [b, c, r] w5.heap.size w5 W → Below w.heap.size w W) := fun W hW => by
        obtain ⟨hba, hbb, hza, -⟩ := HA.out
        exact hba.trans ((hbb.trans ((hE5.butBelow hW).mono hbb.size)).mono hba.size)
      have g0' := hy5.cell (i := 0) rfl
      have g1' := hy5.cell (i := 1) rfl
      have g2' := hy5.cell (i := 2) rfl
      have g3' := hy5.cell (i := 3) rfl
      have g4' := hy5.cell (i := 4) rfl
      have g5' := hy5.cell (i := 5) rfl
      have g6' := hy5.cell (i := 6) rfl
      unfold Yd.v at hfit
      clear hdo hbn hE5 hgr hF hL hver hx g1 g2 g3 hwx hy5 c0 c6
      go_wp2_with fail
      refine hfit.mono ?_
      rintro e w6 ⟨rfl, hb6⟩
      have HE2 := Lib.hid (HE.out w6 hb6)
      clear hfit hb6 HE
      go_wp2_with fail
      go_ret
      exact ⟨rfl, HE2.out⟩
theorem kindsLaw (q : Int) (_hq : (Lit.int .i64 q).wf = true) (w : World) (hT : TabAt w) : Calls Tryd.prog 9 #[.int .i64 q] w fun e w' => e = .returned (.bool true) ∧ Below w.heap.size w w' := kinds_law w hT q
end Go.Proofs.YtbcpdkmbbgcfbaaDoor
