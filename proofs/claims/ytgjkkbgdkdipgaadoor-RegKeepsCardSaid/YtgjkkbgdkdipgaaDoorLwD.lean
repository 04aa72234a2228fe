/- What the law's publish comes to; that the laws are awake. Conditions: generations are below 15990; at most 600000 asks; the library's table stands. -/
import Derived.Test.YtgjkkbgdkdipgaaDoorLwC
namespace Go.Proofs.YtgjkkbgdkdipgaaDoor
open Go.RowKit Go.Op
set_option maxRecDepth 100000

theorem ent_43 (xs : Array Value) (w : World) : (callFunc 43 xs).run Tryd.prog w = .ok (.enter 43 xs) w := by kernel_rfl
theorem ent_36 (xs : Array Value) (w : World) : (callFunc 36 xs).run Tryd.prog w = .ok (.enter 36 xs) w := by kernel_rfl
/-- Behind publish. -/
structure Pub (w0 : World) (b c r : Nat) (G : List (Nat × List Sw)) (w : World) (g : Int) (m : M) (top : Int) (S P : List Int) (W : Int) (A : List Int) (B : List (Int × Int)) (w' : World) (G' : List (Nat × List Sw)) (m' : M) : Prop where
  but : ButN [b, c, r] w.heap.size w w'
  has : HasE w0 b c r G' w' m'
  gro : Grow w G G'
  rm : RM (g + 2) m' top S P W A B
  cnt : m'.count ≤ m.count + 11
  mono : m.count ≤ m'.count
  runs : ∃ V d g2 s2 m1 m2 m3 m4 m5, 0 ≤ V ∧ V ≤ 1000000 ∧ ((lastP top).go m).2 = m1 ∧ ((makeP W V []).go m1).2 = m2 ∧ ((Qn.swap top d g2).on m2).1 = m3 ∧ ((heldP g2).go m3).2 = m4 ∧ ((helpL s2 []).go m4).2 = m5 ∧ ((undoP d).go m5).2 = m'
section
variable {w0 w : World} {b c r : Nat} {G : List (Nat × List Sw)} {zy zn : Nat} {g : Int} {m : M} {R : Rg} {S P : List Int} {V : Int} {A : List Int} {B : List (Int × Int)} {n : Int}
set_option maxHeartbeats 2000000 in
theorem publish1_any (h : HasE w0 b c r G w m) (hT : TabAt w0) (hr : RM g m R.top S P V A B) (hg : g ≤ 15990) (hc : m.count ≤ 600000) (hy : YVar w zy b R) (ly : LocM w0 b c r G w zy) (cn : w.cell? ⟨zn, 0, none⟩ = some (.int .i64 n)) (ln : LocM w0 b c r G w zn) (hV : 0 ≤ V ∧ V ≤ 1000000 ∧ 0 ≤ n ∧ n ≤ 1000) :
    Calls Tryd.prog 43 (#[.pointer (some ⟨w.heap.size, 0, none⟩)] ++ #[.pointer (some ⟨zy, 0, none⟩), .pointer (some ⟨zn, 0, none⟩)]) (w.alloc (portObj b)) fun e w' => ∃ u, e = .returned u ∧ u = .iface 4 (.bool true) ∧ ∃ G' m', Pub w0 b c r G w g m R.top S P (V + 1 + n) A B w' G' m' := by
  obtain ⟨d, bf, st, s2, g2, m1, m2, m3, m4, m5, m6, e1, e2, e3, e4, e5, e6, hr6, n1, n2, n3, n4, n5, n6, n7⟩ := hr.publish hg (V + 1 + n)
  have hD := Dgo.start h (Z := [b, c, r]) ⟨by simp, by simp, by simp⟩
  have h1 := latest_E hD.sys (by omega) R.top
  have y1 := (hy.in_ ly hD).c1
  have HY := Lib.hid (fun (t1 : Value) (G1 : List (Nat × List Sw)) (w1 : World) (m1 : M) (s1 : Pt) (hd : Dgo w0 b c r w.heap.size [b, c, r] w t1 G G1 w1 m1 s1) => (⟨(hy.in_ ly hd).c1, ln.cellD hd cn⟩ : _ ∧ _))
  have HD := Lib.hid hD
  have HN := Lib.hid (⟨n1, n2, n3, n4, n5, n6, n7, hr6⟩ : _ ∧ _ ∧ _ ∧ _ ∧ _ ∧ _ ∧ _ ∧ _)
  have HE := Lib.hid (⟨e1, e2, e3, e4, e5, e6⟩ : _ ∧ _ ∧ _ ∧ _ ∧ _ ∧ _)
  have hmk := mkb4
  have hV1 := hV.1
  have hV2 := hV.2.1
  have hV3 := hV.2.2.1
  have hV4 := hV.2.2.2
  show Calls Tryd.prog 43 #[.pointer (some ⟨w.heap.size, 0, none⟩), .pointer (some ⟨zy, 0, none⟩), .pointer (some ⟨zn, 0, none⟩)] (w.alloc (portObj b)) _
  clear h hr hy ly cn ln hD e1 e2 e3 e4 e5 e6 n1 n2 n3 n4 n5 n6 n7 hr6 hV
  generalize hwp : w.alloc (portObj b) = wp at *
  go_enter Tryd.func43, Tryd.ntmps43
  go_wp2_with fail
  refine h1.mono ?_
  rintro e w1 hE
  obtain ⟨t1, G1, v, rfl, ⟨x, hx, hxi, rfl⟩, ha⟩ := hE.done (ptDo_quiet w b)
  rw [HE.out.1] at hx ha ⊢
  simp only at hx ha ⊢
  have hD1 := HD.out.aft ha
  have hb1 := (Below.refl w1.heap.size w1).alloc (Nat.le_refl _) x.obj
  have hD2 := hD1.later hb1
  have xv : x.ver = V := congrArg Ds.ver hx
  have h2 := make_E hD2.sys hT (by have := HN.out; omega) (V + 1 + n) V none 0 [] (by simp) (by simp) (.inl rfl)
  simp only [List.length_nil] at h2
  obtain ⟨y1, yn⟩ := HY.out _ _ _ _ _ hD2
  unfold Ds.v
  unfold Ds.obj at h2 hD2 y1 yn
  rw [xv] at h2 hD2 y1 yn ⊢
  have HD2 := Lib.hid hD2
  clear h1 hE ha hD1 hb1 hD2 hx hxi HD xv
  go_wp2_with fail
  refine h2.mono ?_
  rintro e w2 hE
  obtain ⟨t2, G2, v, rfl, hv, ha⟩ := hE.done (ptDo_quiet w b)
  replace hv : v = .tuple #[.int .i64 ((makeP (V + 1 + n) V []).go m1).1.1, .int .i64 ((makeP (V + 1 + n) V []).go m1).1.2] := hv
  rw [HE.out.2.1] at hv ha
  simp only at hv ha
  subst hv
  have hD3 := HD2.out.aft ha
  have h3 := publish_E hD3.sys (by have := HN.out; omega) R.top d g2
  obtain ⟨y1, -⟩ := HY.out _ _ _ _ _ hD3
  have HD3 := Lib.hid hD3
  clear h2 hE ha hD3 HD2 yn
  go_wp2_with fail
  refine h3.mono ?_
  rintro e w3 hE
  obtain ⟨t3, G3, v, rfl, rfl, ha⟩ := hE.done1 (ptDo_quiet w b)
  rw [HE.out.2.2.1] at ha ⊢
  simp only at ha ⊢
  have hD4 := HD3.out.aft ha
  have h4 := load_E hD4.sys (by have := HN.out; omega) g2
  have HD4 := Lib.hid hD4
  clear h3 hE ha hD4 HD3 y1
  go_wp2_with fail
  refine h4.mono ?_
  rintro e w4 hE
  obtain ⟨t4, G4, v, rfl, ⟨x2, hx, hxi, rfl⟩, ha⟩ := hE.done (ptDo_quiet w b)
  rw [HE.out.2.2.2.1] at hx ha ⊢
  simp only at hx ha ⊢
  have hD5 := HD4.out.aft ha
  have hb5 := (Below.refl w4.heap.size w4).alloc (Nat.le_refl _) x2.obj
  have hD6 := hD5.later hb5
  have xst : x2.st = s2 := congrArg Ds.st hx
  have xsw : x2.sw = [] := congrArg Ds.sw hx
  have h5 := help_E hD6.sys (by have := HN.out; omega) x2 hxi (by rw [hxi.n, xsw]; simp)
  have hp : helpP x2 = helpL s2 [] := by unfold helpP; rw [xst, xsw]
  rw [hp] at h5
  unfold Ds.v at h5 ⊢
  unfold Ds.obj at h5 hD6
  have HD6 := Lib.hid hD6
  clear h4 hE ha hD5 hb5 hD6 hx hxi xst xsw hp HD4
  go_wp2_with fail
  refine h5.mono ?_
  rintro e w5 hE
  obtain ⟨t5, G5, v, rfl, hv, ha⟩ := hE.done (ptDo_quiet w b)
  replace hv : v = .int .i64 ((helpL s2 []).go m4).1 := hv
  rw [HE.out.2.2.2.2.1] at hv ha
  simp only at hv ha
  subst hv
  have hD7 := HD6.out.aft ha
  have h6 := undo_E hD7.sys (by have := HN.out; omega) d
  have HD7 := Lib.hid hD7
  clear h5 hE ha hD7 HD6
  go_wp2_with fail
  refine h6.mono ?_
  rintro e w6 hE
  obtain ⟨t6, G6, v, rfl, hv, ha⟩ := hE.done (ptDo_quiet w b)
  replace hv : v = .int .i64 ((undoP d).go m5).1 := hv
  rw [HE.out.2.2.2.2.2] at hv ha
  simp only at hv ha
  subst hv
  have hD8 := HD7.out.aft ha
  have HP : Hid (∃ G' m', Pub w0 b c r G w g m R.top S P (V + 1 + n) A B w6 G' m') := ⟨G6, m6, hD8.but, hD8.sys.mem, hD8.gro, HN.out.2.2.2.2.2.2.2, HN.out.2.2.2.2.2.2.1, by have := HN.out; omega, V, d, g2, s2, m1, m2, m3, m4, m5, hV1, hV2, by rw [HE.out.1], by rw [HE.out.2.1], by rw [HE.out.2.2.1], by rw [HE.out.2.2.2.1], by rw [HE.out.2.2.2.2.1], by rw [HE.out.2.2.2.2.2]⟩
  clear h6 hE ha hD8 HD7 HE HN HY
  go_wp2
  go_ret
  exact ⟨_, rfl, rfl, HP.out⟩
theorem HasE.butBelow {w1 : World} (h : HasE w0 b c r G w m) (hb : ButN [b, c, r] w.heap.size w w1) : Below w0.heap.size w0 w1 := by
  obtain ⟨g1, g2, g3, g4⟩ := h.ge
  exact g4.trans (hb.below (fun z hz => by simp at hz; rcases hz with rfl | rfl | rfl <;> assumption) g4.size)
set_option maxHeartbeats 2000000 in
theorem publish_any (h : HasE w0 b c r G w m) (hT : TabAt w0) (hr : RM g m R.top S P V A B) (hg : g ≤ 15990) (hc : m.count ≤ 600000) (hV : 0 ≤ V ∧ V ≤ 1000000 ∧ 0 ≤ n ∧ n ≤ 1000) :
    Calls Tryd.prog 15 #[yv b R, .int .i64 n] w fun e w' => e = .returned (.bool true) ∧ ∃ G' m', Pub w0 b c r G w g m R.top S P (V + 1 + n) A B w' G' m' := by
  have b1 := (Below.refl w.heap.size w).alloc (Nat.le_refl _) (yobj b R)
  have b2 := (Below.refl (w.alloc (yobj b R)).heap.size (w.alloc (yobj b R))).alloc (Nat.le_refl _) (.cells #[.int .i64 n] 3)
  have hz : (w.alloc (yobj b R)).heap.size = w.heap.size + 1 := by simp
  obtain ⟨wb, hwb⟩ : ∃ W, W = (w.alloc (yobj b R)).alloc (.cells #[.int .i64 n] 3) := ⟨_, rfl⟩
  have hbb : Below w.heap.size w wb := by rw [hwb]; exact b1.alloc (by simp) _
  have hEb := h.later hbb
  have ly : LocM w0 b c r G wb w.heap.size := by rw [hwb]; exact (h.fresh (yobj b R)).later b2.size (Grow.refl _ _)
  have ln : LocM w0 b c r G wb (w.heap.size + 1) := by
    have := (h.later b1).fresh (.cells #[.int .i64 n] 3)
    rw [hz] at this; rw [hwb]; exact this
  have hy : YVar wb w.heap.size b R := by rw [hwb]; exact (ynew w b R).same (b2.block _ (by omega))
  have cn : wb.cell? ⟨w.heap.size + 1, 0, none⟩ = some (.int .i64 n) := by rw [hwb, ← hz]; simp [go_sem]
  have hdo := do_any wb b 43 #[.pointer (some ⟨w.heap.size, 0, none⟩), .pointer (some ⟨w.heap.size + 1, 0, none⟩)] _ ent_43 (publish1_any hEb hT hr hg hc hy ly cn ln hV)
  have HB := Lib.hid hbb
  have a4 := as4_yes
  have hm := hmf1
  have y0 := hy.c0
  unfold yobj at hwb
  unfold yv
  have HW := Lib.hid hwb.symm
  clear h hr b1 b2 hz hEb ly ln hy cn hbb hwb
  go_enter Tryd.func15, Tryd.ntmps15
  go_wp2_with (first | rw [HW.out] | fail)
  refine hdo.mono ?_
  rintro e w2 ⟨u, rfl, rfl, G', m', hp⟩
  have HP : Hid (∃ G' m', Pub w0 b c r G w g m R.top S P (V + 1 + n) A B w2 G' m') := ⟨G', m', ⟨hp.but.os.trans HB.out.os, hp.but.tape.trans HB.out.tape, hp.but.output.trans HB.out.output, Nat.le_trans HB.out.size hp.but.size, fun z hz hn => (hp.but.block z (Nat.lt_of_lt_of_le hz HB.out.size) hn).trans (HB.out.block z hz)⟩, hp.has, hp.gro.from HB.out.size, hp.rm, hp.cnt, hp.mono, hp.runs⟩
  clear hdo hp
  go_wp2
  go_ret
  exact ⟨rfl, HP.out⟩
set_option maxHeartbeats 2000000 in
theorem awake1_any (h : HasE w0 b c r G w m) (hr : RM g m R.top S P 4 (List.replicate 2 (-1)) (List.replicate 1 (0, -1))) (hc : m.count ≤ 600000) (hy : YVar w zy b R) (ly : LocM w0 b c r G w zy) (hrg : RgL w0 b c r G w R S P) :
    Calls Tryd.prog 36 (#[.pointer (some ⟨w.heap.size, 0, none⟩)] ++ #[.pointer (some ⟨zy, 0, none⟩)]) (w.alloc (portObj b)) fun e w' => ∃ u, e = .returned u ∧ u = .iface 4 (.bool true) ∧ ButN [b, c, r] w.heap.size w w' := by
  have hD := Dgo.start h (Z := [b, c, r]) ⟨by simp, by simp, by simp⟩
  obtain ⟨m1, e1, hr1, n1, -⟩ := hr.least (by decide) 0
  obtain ⟨m2, e2, hr2, n2, -⟩ := hr1.oldest 0
  have h1 := least_E hD.sys (by omega) (hrg.at_ hD) 0
  have HR := Lib.hid (fun (t1 : Value) (G1 : List (Nat × List Sw)) (w1 : World) (m1 : M) (s1 : Pt) (hd : Dgo w0 b c r w.heap.size [b, c, r] w t1 G G1 w1 m1 s1) => (⟨hy.in_ ly hd, hrg.at_ hd⟩ : _ ∧ _))
  have hl := (hy.in_ ly hD).loadR
  obtain ⟨-, y1, y2, y3, -⟩ := hy.in_ ly hD
  have HD := Lib.hid hD
  have HE := Lib.hid (⟨e1, e2⟩ : _ ∧ _)
  have HN := Lib.hid n1
  have hmk := mkb4
  show Calls Tryd.prog 36 #[.pointer (some ⟨w.heap.size, 0, none⟩), .pointer (some ⟨zy, 0, none⟩)] (w.alloc (portObj b)) _
  clear h hr hy ly hrg hD e1 e2 n1 n2 hr1 hr2
  unfold Rg.v at h1 hl
  generalize hwp : w.alloc (portObj b) = wp at *
  go_enter Tryd.func36, Tryd.ntmps36
  go_wp2_with fail
  refine h1.mono ?_
  rintro e w1 hE
  obtain ⟨t1, G1, v, rfl, hv, ha⟩ := hE.done (ptDo_quiet w b)
  replace hv : v = .tuple #[.int .i64 ((leastP R.top 0 S P).go m).1.1, .int .i64 ((leastP R.top 0 S P).go m).1.2] := hv
  rw [HE.out.1] at hv ha
  simp only at hv ha
  rw [show leastF 0 4 (List.replicate 2 (-1)) (List.replicate 1 (0, -1)) = 4 by decide] at hv
  subst hv
  have hD1 := HD.out.aft ha
  obtain ⟨hy1, hrg1⟩ := HR.out _ _ _ _ _ hD1
  have h2 := oldest_E hD1.sys (by have := HN.out; omega) hrg1 0
  clear y1 y2 y3 hl
  have hl := hy1.loadR
  obtain ⟨-, y1, y2, y3, -⟩ := hy1
  unfold Rg.v at h2 hl
  have HD1 := Lib.hid hD1
  clear h1 hE ha hD1 HD hrg1
  go_wp2_with fail
  refine h2.mono ?_
  rintro e w2 hE
  obtain ⟨t2, G2, v, rfl, hv, ha⟩ := hE.done (ptDo_quiet w b)
  replace hv : v = .tuple #[.int .i64 ((slotsP 0 0 1073741825 S).go m1).1.1, .int .i64 ((slotsP 0 0 1073741825 S).go m1).1.2] := hv
  rw [HE.out.2] at hv
  simp only at hv
  rw [show oldF 0 (List.replicate 2 (-1)) = 1073741825 by decide] at hv
  subst hv
  have HB := Lib.hid (HD1.out.aft ha).but
  clear h2 hE ha HD1 HE y1 y2 y3 hl
  go_wp2
  go_ret
  exact ⟨_, rfl, rfl, HB.out⟩
end
set_option maxHeartbeats 2000000 in
theorem awake_any (w : World) (hT : TabAt w) : Calls Tryd.prog 7 #[] w fun e w' => e = .returned (.bool true) ∧ Below w.heap.size w w' := by
  have hl := lay_any w hT 2 1 (by decide) (by decide)
  have a4 := as4_yes
  have hm := hmf1
  have HT := Lib.hid hT
  clear hT
  go_enter Tryd.func7, Tryd.ntmps7
  go_wp2_with fail
  refine hl.mono ?_
  rintro e w1 ⟨⟨b, c, r, G, R, S, P, m, rfl, hL⟩, hb1⟩
  have hb2 := (Below.refl w1.heap.size w1).alloc (Nat.le_refl _) (yobj b R)
  have hE2 := hL.has.later hb2
  have hpu := publish_any (R := R) (n := 3) hE2 HT.out (by rw [hL.top]; exact hL.rm) (by decide) (by have := hL.cnt; omega) (by decide)
  have hy2 := ynew w1 b R
  have HH := Lib.hid (⟨hE2, hL.rg.later hb2, hE2.ge, hL.cnt, hy2, hL.has.fresh (yobj b R)⟩ : _ ∧ _ ∧ _ ∧ _ ∧ _ ∧ _)
  have HB := Lib.hid (hb1.trans (hb2.mono hb1.size))
  obtain ⟨y0, y1, y2, y3, -⟩ := hy2
  unfold yv at hpu ⊢
  unfold yobj at hpu HH HB y0 y1 y2 y3
  have hz : w1.heap.size < (w1.alloc (.cells #[.pointer (some ⟨b, 0, none⟩), .int .i64 R.top, .slice R.sa R.sn R.sc, .slice R.pa R.pn R.pc] 39)).heap.size := by simp
  clear hl hL hb1 hb2 hE2
  generalize hw2 : w1.alloc (.cells #[.pointer (some ⟨b, 0, none⟩), .int .i64 R.top, .slice R.sa R.sn R.sc, .slice R.pa R.pn R.pc] 39) = w2 at *
  have HW := Lib.hid hw2
  clear hw2
  go_wp2_with (first | rw [HW.out] | fail)
  refine hpu.mono ?_
  rintro e w3 ⟨rfl, G', m', hp⟩
  obtain ⟨hE2, hrg, hge, hcn, hy, hfr⟩ := HH.out
  have ly3 : LocM w b c r G' w3 w1.heap.size := hfr.later hp.but.size hp.gro
  have kb : w3.heap[w1.heap.size]? = w2.heap[w1.heap.size]? := hp.but.block _ hz (by have := ly3.ne; simp; omega)
  have hy3 := hy.same kb
  have hrg3 := hrg.butn hp.but hp.gro
  have hdo := do_any w3 b 36 #[.pointer (some ⟨w1.heap.size, 0, none⟩)] _ ent_36 (awake1_any hp.has hp.rm (by have := hp.cnt; omega) hy3 ly3 hrg3)
  have HF : Hid (∀ w4, ButN [b, c, r] w3.heap.size w3 w4 → Below w.heap.size w w4) := fun w4 h4 => hp.has.butBelow h4
  replace y0 := hy3.c0
  clear hpu hp hE2 hrg hge hcn hy hfr ly3 kb hy3 hrg3 y1 y2 y3
  go_wp2_with fail
  refine hdo.mono ?_
  rintro e w4 ⟨u, rfl, rfl, hb⟩
  have HE := Lib.hid (HF.out w4 hb)
  clear hdo hb HF
  go_wp2
  go_ret
  exact ⟨rfl, HE.out⟩
end Go.Proofs.YtgjkkbgdkdipgaaDoor
