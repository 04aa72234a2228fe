/- That the laws are awake. Condition: the library's table stands. -/
import Derived.Test.YtbcpdkmbbgcfbaaDoorNu
namespace Go.Proofs.YtbcpdkmbbgcfbaaDoor
open Go.RowKit Go.Op
set_option maxRecDepth 100000

theorem SysE.slcell {w0 : World} {b c r pb po : Nat} {t : Value} {G : List (Nat × List Value)} {w : World} {m : M} {s : Pt} {sl : Sl} {l : List Value} {i : Nat} {x : Value} (h : SysE w0 b c r pb po t G w m s) (hs : sl.In G l) (hx : l[i]? = some x) : ∃ g o, sl.a = some ⟨g, o, none⟩ ∧ w.cell? ⟨g, o + i, none⟩ = some x := by
  rcases hs.row with e | ⟨g, o, r, e, hm, hr⟩
  · rw [e] at hx; simp at hx
  · obtain ⟨m0, s0, h1, -⟩ := h
    exact ⟨g, o, e, (h1.rows g r hm).1.at_ _ _ (hr i x hx)⟩
theorem HasE.slcell {w0 : World} {b c r : Nat} {G : List (Nat × List Value)} {w : World} {m : M} {sl : Sl} {l : List Value} {i : Nat} {x : Value} (h : HasE w0 b c r G w m) (hs : sl.In G l) (hx : l[i]? = some x) : ∃ g o, sl.a = some ⟨g, o, none⟩ ∧ w.cell? ⟨g, o + i, none⟩ = some x := by
  rcases hs.row with e | ⟨g, o, r, e, hm, hr⟩
  · rw [e] at hx; simp at hx
  · obtain ⟨m0, -, -, -, -, h5⟩ := h
    exact ⟨g, o, e, (h5 g r hm).1.at_ _ _ (hr i x hx)⟩
theorem HasE.butBelow {w0 w : World} {b c r : Nat} {G : List (Nat × List Value)} {m : M} {w1 : World} (h : HasE w0 b c r G w m) (hb : ButN [b, c, r] w.heap.size w w1) : Below w0.heap.size w0 w1 := by
  obtain ⟨g1, g2, g3, g4⟩ := h.ge
  exact ⟨hb.os.trans g4.os, hb.tape.trans g4.tape, hb.output.trans g4.output, Nat.le_trans g4.size hb.size, fun k hk => (hb.block k (Nat.lt_of_lt_of_le hk g4.size) (by simp only [List.mem_cons, List.not_mem_nil, or_false]; omega)).trans (g4.block k hk)⟩
section
variable {w0 w : World} {b c r : Nat} {G : List (Nat × List Value)} {zy : Nat} {m : M}
set_option maxHeartbeats 2000000 in
theorem awake1_any (h : HasE w0 b c r G w m) {y : Yd} {hd p1 p2 : Int} {x0 x1 x2 : Int × Rv × Int} (hym : YM m y.H hd p1 p2 [x0, x1, x2]) (v0 : x0.2.1.ver = 7) (v1 : x1.2.1.ver = 5) (hn : y.n = ⟨⟨#[107]⟩, hd, [p1, p2]⟩) (hpn : y.pn.In G (ints [p1, p2])) (hhs : y.hs.In G (ints [x0.1, x1.1, x2.1]))
    (hy : SVar w zy (Yd.row b y)) (ly : LocM w0 b c r G w zy) :
    Calls Tryd.prog 45 (#[.pointer (some ⟨w.heap.size, 0, none⟩)] ++ #[.pointer (some ⟨zy, 0, none⟩)]) (w.alloc (portObj b)) fun e w' => ∃ u, e = .returned u ∧ u = .iface 4 (.bool true) ∧ ButN [b, c, r] w.heap.size w w' := by
  have hD := Dgo.start h (Z := [b, c, r]) ⟨by simp, by simp, by simp⟩
  have hbp := (Below.refl w.heap.size w).alloc (Nat.le_refl _) (portObj b)
  obtain ⟨m1, e1, a1⟩ := up_go (v := 6) (n := 10) hym.word hym.ch (by simp) (by simp)
  have hf : foundS 6 [x0, x1, x2] = (⟨x1.1, ⟨x1.2.1, x1.2.2⟩⟩, 0) := by simp [foundS, v0, v1]
  have ht : tailFrom 6 [x0, x1, x2] = [x1, x2] := by simp [tailFrom, v0, v1]
  rw [hf] at e1
  have hnd : (prevs [x0, x1, x2]).Nodup := by
    have := hym.nd
    simp [prevs, flat] at this ⊢
    omega
  obtain ⟨m2, e2, s2⟩ := cut_go (v := 6) (n := 10) ((a1.look hd).trans hym.word) (hym.ch.asked a1) (by simp) (by simp) hnd (by simp)
  rw [ht] at e2
  have cnt0 := hym.cnt
  have cnt1 := a1.cnt
  simp only [List.length_cons, List.length_nil] at cnt0 cnt1
  have x1z : x1.1 ≠ 0 := by
    obtain ⟨-, -, -, k, -, q1, q2, -⟩ := hym.ch
    rw [← q1]; exact q2
  obtain ⟨H, nd, pn, ch, hs⟩ := y
  simp only at *
  subst hn
  have hne1 : ((upP 10 hd 6).run (ptDo w b) m).1 ≠ some none := by rw [(ptDo_quiet w b).run, e1]; simp
  have hne2 : ((cutP 10 hd 6).run (ptDo w b) m1).1 ≠ some none := by rw [(ptDo_quiet w b).run, e2]; simp
  have h1 := At_E hD.sys 10 (by omega) ⟨⟨#[107]⟩, hd, [p1, p2]⟩ ⟨pn, .nil, .nil, .nil⟩ 6 hne1
  have ly0 := ly.loc hD
  have sy0 := hy.later hbp
  have hld := load_mid (z := zy) (o := 2) (ty := 27) (sub := [.string ⟨#[107]⟩, .int .i64 hd, .slice pn.a pn.n pn.cap]) (sy0.mid 2 _ (fun j v hj => by
    match j, hj with
    | 0, hj => exact hj
    | 1, hj => exact hj
    | 2, hj => exact hj
    | j + 3, hj => simp at hj)) sh27
  have HD := Lib.hid hD
  have HE := Lib.hid (⟨e1, e2, hne2⟩ : _ ∧ _ ∧ _)
  have HS := Lib.hid (⟨sy0, ly0⟩ : _ ∧ _)
  have HN := Lib.hid (⟨cnt0, cnt1⟩ : _ ∧ _)
  have HH := Lib.hid hhs
  have HX1 := Lib.hid x1z
  have hmk := mkb4
  have HV1 := Lib.hid v1
  unfold Nd.v at h1
  simp only at h1
  show Calls Tryd.prog 45 #[.pointer (some ⟨w.heap.size, 0, none⟩), .pointer (some ⟨zy, 0, none⟩)] (w.alloc (portObj b)) _
  clear h hym hpn hhs hy ly hD hbp e1 e2 a1 s2 hf ht hnd cnt0 cnt1 hne1 hne2 ly0 sy0 x1z v0 v1
  generalize hwp : w.alloc (portObj b) = wp at *
  go_enter Tryd.func45, Tryd.ntmps45
  go_wp2_with (first | ((with_reducible refine load_run ?_ (.tmp 11) 27 ?_ ?_ hld ?_); exact rfl; exact rfl; exact rfl) | fail)
  refine h1.mono ?_
  rintro e w1 hE
  obtain ⟨t1, G1, u, rfl, ⟨x, q, hx, hin, rfl⟩, ha⟩ := hE.done (ptDo_quiet w b)
  rw [HE.out.1] at hx ha
  cases hx
  have hbt : (x1.1 != 0) = true := by have := HX1.out; simpa using this
  simp only at hin ha ⊢
  rw [hbt]
  obtain ⟨sy, ly⟩ := HS.out
  have hD1 := HD.out.aft ha
  obtain ⟨sy1, ly1⟩ := ha.svar ly sy
  obtain ⟨w2, hw2⟩ : ∃ W, W = w1.alloc (.cells ((⟨x1.2.1, x1.2.2⟩ : Ag).row q).toArray 42) := ⟨_, rfl⟩
  have b2 : Below w1.heap.size w1 w2 := by rw [hw2]; exact (Below.refl _ w1).alloc (Nat.le_refl _) _
  have sa : SVar w2 w1.heap.size ((⟨x1.2.1, x1.2.2⟩ : Ag).row q) := by rw [hw2]; exact snew _ _ _
  have hD2 := hD1.later b2
  have sy2 := sy1.later b2
  have ly2 := ly1.same b2.size
  have la2 : Loc w0 b c r w.heap.size t1 G1 w2 w1.heap.size := by rw [hw2]; exact hD1.sys.fresh _
  have h2 := Cut_E hD2.sys 10 (by have := HN.out; simp only [Nat.zero_add, Nat.reduceAdd] at this; omega) ⟨⟨#[107]⟩, hd, [p1, p2]⟩ ⟨pn, .nil, .nil, .nil⟩ 6 HE.out.2.2
  have hld2 := load_mid (z := zy) (o := 2) (ty := 27) (sub := [.string ⟨#[107]⟩, .int .i64 hd, .slice pn.a pn.n pn.cap]) (sy2.mid 2 _ (fun j v hj => by
    match j, hj with
    | 0, hj => exact hj
    | 1, hj => exact hj
    | 2, hj => exact hj
    | j + 3, hj => simp at hj)) sh27
  have HW2 := Lib.hid hw2.symm
  have HD2 := Lib.hid hD2
  have HS2 := Lib.hid (⟨sy2, ly2, sa, la2⟩ : _ ∧ _ ∧ _ ∧ _)
  unfold Nd.v at h2
  unfold Ag.v
  simp only [Ag.row] at HW2
  simp only at h2 ⊢
  clear h1 hE hin ha hbt sy ly hD1 sy1 ly1 hw2 b2 sa hD2 sy2 ly2 la2 hld
  go_wp2_with (first | rw [HW2.out] | ((with_reducible refine load_run ?_ (.tmp 19) 27 ?_ ?_ hld2 ?_); exact rfl; exact rfl; exact rfl) | fail)
  refine h2.mono ?_
  rintro e w3 hE
  obtain ⟨t2, G2, u, rfl, ⟨x, sl, hx, hin, rfl⟩, ha⟩ := hE.done (ptDo_quiet w b)
  rw [HE.out.2.1] at hx ha
  cases hx
  obtain ⟨sy, ly, sa, la⟩ := HS2.out
  have hD3 := HD2.out.aft ha
  obtain ⟨sy3, ly3⟩ := ha.svar ly sy
  obtain ⟨sa3, la3⟩ := ha.svar la sa
  have hdr : (flat [x1, x2]).drop 2 = [x2.1, x2.2.2] := rfl
  simp only [hdr] at hin
  obtain ⟨g, o, ea, ce⟩ := hD3.sys.slcell (i := 0) hin rfl
  obtain ⟨g2, o2, ea2, ce2⟩ := hD3.sys.slcell (i := 2) (HH.out.more fun x hx => hD3.gro.1 x hx) rfl
  have hsn := hin.n
  have hsc := hin.cap
  have hhn := HH.out.n
  have hhc := HH.out.cap
  obtain ⟨sla, sln, slc⟩ := sl
  obtain ⟨hsa, hsn2, hsc2⟩ := hs
  simp only [ints_length, List.length_cons, List.length_nil, Nat.zero_add, Nat.reduceAdd, Nat.add_zero] at hsn hsc hhn hhc ea ea2 ce ce2 ⊢
  subst hsn hhn ea ea2
  have hsc' : (2 : Int) ≤ (slc : Int) := by omega
  have hhc' : (3 : Int) ≤ (hsc2 : Int) := by omega
  have cv := sa3.cell (i := 0) rfl
  simp only at cv
  rw [HV1.out] at cv
  have ch6 := sy3.cell (i := 6) rfl
  simp only at ch6
  have HB := Lib.hid (fun W (hW : Below w3.heap.size w3 W) => (hD3.later hW).but)
  clear h2 hE hin ha sy ly sa la hD3 sy3 ly3 sa3 la3 hdr hld2
  go_wp2_with fail
  go_quiet (fail)
  go_wp2
  go_ret
  exact ⟨_, rfl, rfl, HB.out _ (below_drewN _ _)⟩
end
theorem vers121 : vers ([1, 2, 1] : List Nat).reverse = [7, 5, 2] := by decide
set_option maxHeartbeats 2000000 in
theorem awake_any (w : World) (hT : TabAt w) : Calls Tryd.prog 11 #[] w fun e w' => e = .returned (.bool true) ∧ Below w.heap.size w w' := by
  obtain ⟨wa, hwa⟩ : ∃ W, W = w.alloc (.cells #[.int .u8 1, .int .u8 2, .int .u8 1] 5) := ⟨_, rfl⟩
  have hba : Below w.heap.size w wa := by rw [hwa]; exact (Below.refl _ _).alloc (Nat.le_refl _) _
  have hr : SVar wa w.heap.size [.int .u8 1, .int .u8 2, .int .u8 1] := by rw [hwa]; exact snew w [.int .u8 1, .int .u8 2, .int .u8 1] 5
  have hl := lay_any wa (hT.below hba) (a := some ⟨w.heap.size, 0, none⟩) (cap := 3) [1, 2, 1] (by decide) ⟨by decide, .inr ⟨w.heap.size, 0, rfl, hr.lt, by simp, hr.at_⟩⟩
  have a4 := as4_yes
  have hm := hmf
  have HW := Lib.hid hwa.symm
  have HBa := Lib.hid hba
  simp only [List.length_cons, List.length_nil, Nat.zero_add, Nat.reduceAdd] at hl
  clear hT hba hr hwa
  go_enter Tryd.func11, Tryd.ntmps11
  go_wp2_with (first | rw [HW.out] | fail)
  refine hl.mono ?_
  rintro e w1 ⟨⟨b, c, r, G, m, y, hd, p1, p2, l, rfl, hL⟩, hb1⟩
  have hvs := hL.vers
  rw [vers121] at hvs
  match l, hL, hvs with
  | [x0, x1, x2], hL, hvs =>
  simp only [List.map_cons, List.map_nil, List.cons.injEq, and_true] at hvs
  obtain ⟨v0, v1, -⟩ := hvs
  obtain ⟨w2, hw2⟩ : ∃ W, W = w1.alloc (.cells (Yd.row b y).toArray 29) := ⟨_, rfl⟩
  have hb2 : Below w1.heap.size w1 w2 := by rw [hw2]; exact (Below.refl _ _).alloc (Nat.le_refl _) _
  have hE2 := hL.has.later hb2
  have hy2 : SVar w2 w1.heap.size (Yd.row b y) := by rw [hw2]; exact snew _ _ _
  have ly2 : LocM wa b c r G w2 w1.heap.size := by rw [hw2]; exact hL.has.fresh _
  have hch := hL.ch
  rw [vers121] at hch
  obtain ⟨g, o, ea, ce0⟩ := hE2.slcell (i := 0) hch rfl
  obtain ⟨g', o', ea', ce2⟩ := hE2.slcell (i := 2) hch rfl
  rw [ea] at ea'
  cases ea'
  have hdo := do_any w2 b 45 #[.pointer (some ⟨w1.heap.size, 0, none⟩)] _ ent_45 (awake1_any hE2 hL.ym v0 v1 hL.n hL.pn hL.hs hy2 ly2)
  have HF : Hid (∀ w3, ButN [b, c, r] w2.heap.size w2 w3 → Below w.heap.size w w3) := fun w3 h3 => HBa.out.trans ((hE2.butBelow h3).mono HBa.out.size)
  have hcn := hch.n
  have hcc := hch.cap
  have c0 := hy2.cell (i := 0) rfl
  have c5 := hy2.cell (i := 5) rfl
  simp only [ints_length, List.length_cons, List.length_nil, Nat.zero_add, Nat.reduceAdd, Nat.add_zero] at hcn hcc ce0 ce2 c5
  rw [hcn, ea] at c5
  have hcc' : (3 : Int) ≤ (y.ch.cap : Int) := by omega
  simp only [Yd.row] at hw2
  unfold Yd.v
  have HW2 := Lib.hid hw2.symm
  rw [hcn, ea] at HW2 ⊢
  clear hl hL hb1 hb2 hE2 hy2 ly2 hch hw2 v0 v1 hcn ea
  go_wp2_with (first | rw [HW2.out] | fail)
  refine hdo.mono ?_
  rintro e w3 ⟨u, rfl, rfl, hb⟩
  have HE := Lib.hid (HF.out w3 hb)
  clear hdo hb HF
  go_wp2
  go_ret
  exact ⟨rfl, HE.out⟩
end Go.Proofs.YtbcpdkmbbgcfbaaDoor
