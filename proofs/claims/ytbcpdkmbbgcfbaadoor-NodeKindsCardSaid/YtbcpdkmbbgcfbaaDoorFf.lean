/- NodeKinds's closure. Condition: the library's table stands. -/
import Derived.Test.YtbcpdkmbbgcfbaaDoorFe
namespace Go.Proofs.YtbcpdkmbbgcfbaaDoor
open Go.RowKit Go.Op
set_option maxRecDepth 100000

theorem ent_38 (xs : Array Value) (w : World) : (callFunc 38 xs).run Tryd.prog w = .ok (.enter 38 xs) w := by kernel_rfl
theorem ent_39 (xs : Array Value) (w : World) : (callFunc 39 xs).run Tryd.prog w = .ok (.enter 39 xs) w := by kernel_rfl
theorem at_25z (g o n cp : Nat) (h : 0 < n) (w : World) : (Instr.indexAt 25 (.slice (some ⟨g, o, none⟩) n cp) (.int .i64 0)).run Tryd.prog w = .ok (.pointer (some ⟨g, o, none⟩)) w := by
  have h2 : (0 : Int) < (n : Int) := by omega
  go_simp
section
variable {w0 w : World} {b c r : Nat} {G : List (Nat × List Value)} {zy zq zr : Nat} {m : M}
/-- Lift and Undo, in whatever order. -/
def TwoS (w0 : World) (b c r : Nat) (G : List (Nat × List Value)) (w : World) (mK : M) (bs : List Bool) (β : Nat → Value) (W : World) : Prop :=
  ∃ (x y : Bool) (t1 : Value) (G1 : List (Nat × List Value)) (m1 : M), bs = [x, y] ∧ Dgo w0 b c r w.heap.size [b, c, r] w t1 G G1 W m1 (ptDo w b) ∧ AskN mK m1 ((if x = true then 1 else 0) + (if y = true then 1 else 0)) ∧ (x = true → β 3 = .int .i64 6) ∧ (y = true → β 9 = .int .i64 6)
set_option maxHeartbeats 4000000 in
theorem kinds1_any (h : HasE w0 b c r G w m) (hcm : m.count ≤ 1000) {y : Yd} {hd p1 p2 : Int} {x0 x1 : Int × Rv × Int} (hym : YM m y.H hd p1 p2 [x0, x1]) (hn : y.n = ⟨⟨#[107]⟩, hd, [p1, p2]⟩) (hhs : y.hs.In G (ints [x0.1, x1.1])) (q : Int) (rw_ : Bool) (hraw : rw_ = true → q ≠ x0.1 ∧ q ≠ x1.1)
    (hy : SVar w zy (Yd.row b y)) (ly : zy < w.heap.size ∧ zy ∉ [b, c, r]) (cq : w.cell? ⟨zq, 0, none⟩ = some (.int .i64 q)) (lq : zq < w.heap.size ∧ zq ∉ [b, c, r]) (cr : w.cell? ⟨zr, 0, none⟩ = some (.bool rw_)) (lr : zr < w.heap.size ∧ zr ∉ [b, c, r]) :
    Calls Tryd.prog 42 (#[.pointer (some ⟨w.heap.size, 0, none⟩)] ++ #[.pointer (some ⟨zy, 0, none⟩), .pointer (some ⟨zq, 0, none⟩), .pointer (some ⟨zr, 0, none⟩)]) (w.alloc (portObj b)) fun e w' => ∃ u, e = .returned u ∧ u = .iface 4 (.bool true) ∧ Behind w0 b c r G w m [x0, x1] 2 w' := by
  have hD := Dgo.start h (Z := [b, c, r]) ⟨by simp, by simp, by simp⟩
  obtain ⟨g, o, ea, -⟩ := hD.sys.slcell (i := 0) hhs (x := .int .i64 x0.1) (ints_get rfl)
  have hhn := hhs.n
  rw [ints_length] at hhn
  have hhn2 : y.hs.n = 2 := hhn
  have c1 := hy.cell (i := 1) rfl
  have c3 := hy.cell (i := 3) rfl
  have c6 := hy.cell (i := 6) rfl
  rw [hhn2, ea] at c6
  rw [hn] at c3
  have K0 := Lib.hid (fun (t1 : Value) (G1 : List (Nat × List Value)) (w1 : World) (m1 : M) (s1 : Pt) (hd' : Dgo w0 b c r w.heap.size [b, c, r] w t1 G G1 w1 m1 s1) => (⟨LocM.cellD ly.2 ly.1 hd' c1, LocM.cellD ly.2 ly.1 hd' c3, LocM.cellD ly.2 ly.1 hd' c6, LocM.cellD lq.2 lq.1 hd' cq, LocM.cellD lr.2 lr.1 hd' cr, (by
    obtain ⟨g', o', ea', ce⟩ := hd'.sys.slcell (i := 0) (hhs.more fun x hx => hd'.gro.1 x hx) (x := .int .i64 x0.1) (ints_get rfl)
    rw [ea] at ea'
    cases ea'
    rw [Nat.add_zero] at ce
    exact ce : w1.cell? ⟨g, o, none⟩ = some (.int .i64 x0.1))⟩ : _ ∧ _ ∧ _ ∧ _ ∧ _ ∧ _))
  obtain ⟨H, nd, pn, ch, hs⟩ := y
  simp only at *
  have lH := hym.node
  have lx0 := (hym.ch.age x0 List.mem_cons_self).1
  have lhd := hym.word
  have hz0 : H ≠ 0 := fun e => by rw [e, look_zero] at lH; cases lH
  have HG := Lib.hid (fun (m1 : M) (k : Int) (ha : AskN m m1 k) => (⟨(ha.look H).trans lH, (ha.look x0.1).trans lx0, (ha.look hd).trans lhd, look_zero m1, ha.cnt⟩ : _ ∧ _ ∧ _ ∧ _ ∧ _))
  have HR : Hid (∀ (m1 : M) (k : Int), AskN m m1 k → ∃ ag e m', (takeP q).go m1 = ((ag, e), m') ∧ AskN m1 m' 1 ∧ (rw_ = true → e = 5 ∨ e = 6)) := fun m1 k ha => by
    obtain ⟨ag, e, m', e1, e2, e3⟩ := take_any m1 q
    refine ⟨ag, e, m', e1, e2, fun hr => e3 fun rr p pl el => ?_⟩
    rw [ha.look] at el
    refine hym.raw q (fun x hx => ?_) rr p pl el
    simp only [List.mem_cons, List.not_mem_nil, or_false] at hx
    rcases hx with rfl | rfl
    · exact (hraw hr).1
    · exact (hraw hr).2
  have HFl : Hid (∀ (m1 : M) (k : Int), AskN m m1 k → k ≤ 400 → Felled m m1 [x0, x1] 2) := fun m1 k ha hk => ⟨hym.ch.asked ha, fun j _ => ha.look j, fun x hx => (ha.look _).trans (hym.ch.age x hx).1, ha.mono, by have := ha.cnt; omega⟩
  have HC := Lib.hid hcm
  have HZ := Lib.hid hz0
  have hA0 : AskN m m 0 := AskN.refl m
  have hmk := mkb4
  show Calls Tryd.prog 42 #[.pointer (some ⟨w.heap.size, 0, none⟩), .pointer (some ⟨zy, 0, none⟩), .pointer (some ⟨zq, 0, none⟩), .pointer (some ⟨zr, 0, none⟩)] (w.alloc (portObj b)) _
  clear h hcm hym hhs hy ly lq lr ea hhn hhn2 c1 c3 c6 cq cr lH lx0 lhd hz0 hraw hn
  generalize hwp : w.alloc (portObj b) = wp at *
  obtain ⟨k1, k3, k6, kq, kr, kx⟩ := K0.out _ _ _ _ _ hD
  have gh := take_node (HG.out _ _ hA0).1
  have hl := Take_E hD.sys (by have := (HG.out _ _ hA0).2.2.2.2; have := HC.out; omega) H
  have HDx := Lib.hid hD
  have HAx := Lib.hid hA0
  clear hD hA0
  go_enter Tryd.func42, Tryd.ntmps42
  go_wp2_with fail
  refine hl.mono ?_
  rintro e w1 hE
  obtain ⟨t1, G1, u, rfl, ⟨q1, hin, rfl⟩, ha⟩ := hE.done (ptDo_quiet w b)
  rw [gh] at hin ha ⊢
  simp only at ha ⊢
  obtain ⟨ag1, hag⟩ : ∃ a, a = ag0 := ⟨_, rfl⟩
  rw [← hag]
  unfold Ag.v
  have hD := HDx.out.aft ha
  have hA0 := HAx.out.trans (AskN.ask _)
  obtain ⟨v1, hv1⟩ : ∃ W, W = w1.alloc (.cells (ag1.row q1).toArray 42) := ⟨_, rfl⟩
  replace hD := hD.later (w2 := v1) (by rw [hv1]; exact (Below.refl _ _).alloc (Nat.le_refl _) _)
  have HW1 := Lib.hid hv1.symm
  simp only [Ag.row] at HW1
  clear hag hin gh
  clear hl hE ha HDx HAx k1 k3 k6 kq kr kx hv1
  obtain ⟨k1, k3, k6, kq, kr, kx⟩ := K0.out _ _ _ _ _ hD
  have gh := load_age (HG.out _ _ hA0).2.1
  have hl := Load_E hD.sys (by have := (HG.out _ _ hA0).2.2.2.2; have := HC.out; omega) x0.1
  have HDx := Lib.hid hD
  have HAx := Lib.hid hA0
  clear hD hA0
  go_wp2_with (first | rw [HW1.out] | fail)
  refine hl.mono ?_
  rintro e w2 hE
  obtain ⟨t2, G2, u, rfl, ⟨q2, hin, rfl⟩, ha⟩ := hE.done (ptDo_quiet w b)
  rw [gh] at hin ha ⊢
  simp only at ha ⊢
  obtain ⟨nd2, hag⟩ : ∃ a, a = nd0 := ⟨_, rfl⟩
  rw [← hag]
  unfold Nd.v
  have hD := HDx.out.aft ha
  have hA0 := HAx.out.trans (AskN.ask _)
  obtain ⟨v2, hv2⟩ : ∃ W, W = w2.alloc (.cells (nd2.row q2).toArray 27) := ⟨_, rfl⟩
  replace hD := hD.later (w2 := v2) (by rw [hv2]; exact (Below.refl _ _).alloc (Nat.le_refl _) _)
  have HW2 := Lib.hid hv2.symm
  simp only [Nd.row] at HW2
  clear hag hin gh HW1
  clear hl hE ha HDx HAx k1 k3 k6 kq kr kx hv2
  obtain ⟨k1, k3, k6, kq, kr, kx⟩ := K0.out _ _ _ _ _ hD
  have gh := load_word (HG.out _ _ hA0).2.2.1
  have hl := Load_E hD.sys (by have := (HG.out _ _ hA0).2.2.2.2; have := HC.out; omega) hd
  have HDx := Lib.hid hD
  have HAx := Lib.hid hA0
  clear hD hA0
  go_wp2_with (first | rw [HW2.out] | fail)
  refine hl.mono ?_
  rintro e w3 hE
  obtain ⟨t3, G3, u, rfl, ⟨q3, hin, rfl⟩, ha⟩ := hE.done (ptDo_quiet w b)
  rw [gh] at hin ha ⊢
  simp only at ha ⊢
  obtain ⟨nd3, hag⟩ : ∃ a, a = nd0 := ⟨_, rfl⟩
  rw [← hag]
  unfold Nd.v
  have hD := HDx.out.aft ha
  have hA0 := HAx.out.trans (AskN.ask _)
  obtain ⟨v3, hv3⟩ : ∃ W, W = w3.alloc (.cells (nd3.row q3).toArray 27) := ⟨_, rfl⟩
  replace hD := hD.later (w2 := v3) (by rw [hv3]; exact (Below.refl _ _).alloc (Nat.le_refl _) _)
  have HW3 := Lib.hid hv3.symm
  simp only [Nd.row] at HW3
  clear hag hin gh HW2
  clear hl hE ha HDx HAx k1 k3 k6 kq kr kx hv3
  obtain ⟨k1, k3, k6, kq, kr, kx⟩ := K0.out _ _ _ _ _ hD
  have gh := fell_node HZ.out (HG.out _ _ hA0).1
  have hl := Fell_E hD.sys 40 (by have := (HG.out _ _ hA0).2.2.2.2; have := HC.out; omega) H (by rw [(ptDo_quiet w b).run, gh]; simp)
  have HDx := Lib.hid hD
  have HAx := Lib.hid hA0
  clear hD hA0
  go_wp2_with (first | rw [HW3.out] | fail)
  refine hl.mono ?_
  rintro e w4 hE
  obtain ⟨t4, G4, u, rfl, ⟨qq, sl4, hq, hin, rfl⟩, ha⟩ := hE.done (ptDo_quiet w b)
  rw [gh] at hq ha
  cases hq
  simp only at ha ⊢
  have hD := HDx.out.aft ha
  have hA0 := HAx.out.trans (AskN.ask _)
  clear hin gh HW3
  clear hl hE ha HDx HAx k1 k3 k6 kq kr kx
  obtain ⟨k1, k3, k6, kq, kr, kx⟩ := K0.out _ _ _ _ _ hD
  have HD4 := Lib.hid hD
  have HA4 := Lib.hid hA0
  have mixed : Tryd.prog.follows .mixedOrders = true := by kernel_rfl
  have hm4 := hA0
  obtain ⟨mK, hmK⟩ : ∃ M1 : M, M1 = (((m.ask).ask).ask).ask := ⟨_, rfl⟩
  rw [← hmK] at hD hA0 HD4 HA4
  have HS : Hid (∀ bs β W, TwoS w0 b c r G w mK bs β W → ∃ (t1 : Value) (G1 : List (Nat × List Value)) (m1 : M), Dgo w0 b c r w.heap.size [b, c, r] w t1 G G1 W m1 (ptDo w b)) := fun bs β W hS => by
    obtain ⟨_, _, t1, G1, m1, -, hD, -⟩ := hS
    exact ⟨t1, G1, m1, hD⟩
  have H39 : Hid (∀ bs β W, TwoS w0 b c r G w mK bs β W → bs[0]? = some false → Calls Tryd.prog 39 #[.pointer (some ⟨w.heap.size, 0, none⟩), .int .i64 H] W fun e w' => ∃ u, e = .returned u ∧ TwoS w0 b c r G w mK (bs.set 0 true) (FreeV.upd β 3 u) w') := fun bs β W hS h0 => by
    obtain ⟨x, y, t1, G1, m1, rfl, hD, hA, b1, b2⟩ := hS
    obtain rfl : x = false := by simpa using h0
    have hAm := HA4.out.trans hA
    have gh := lift_node (HG.out _ _ hAm).1
    have hcn : m1.count ≤ 400000 := by
      have c1 := (HG.out _ _ hAm).2.2.2.2
      have c2 := HC.out
      simp only [Bool.false_eq_true, if_false] at c1
      split at c1 <;> omega
    refine (Lift_E hD.sys hcn H).mono ?_
    rintro e w' hE
    obtain ⟨t2, G2, u, rfl, hu, ha⟩ := hE.done (ptDo_quiet w b)
    rw [gh] at hu ha
    exact ⟨_, rfl, true, y, t2, G2, _, rfl, hD.aft ha, (hA.trans (AskN.ask m1)).le (by simp only [if_true, Bool.false_eq_true, if_false]; omega), fun _ => by rw [FreeV.upd_same]; exact hu, fun e => by rw [FreeV.upd_ne (by decide)]; exact b2 e⟩
  have H38 : Hid (∀ bs β W, TwoS w0 b c r G w mK bs β W → bs[1]? = some false → Calls Tryd.prog 38 #[.pointer (some ⟨w.heap.size, 0, none⟩), .int .i64 x0.1] W fun e w' => ∃ u, e = .returned u ∧ TwoS w0 b c r G w mK (bs.set 1 true) (FreeV.upd β 9 u) w') := fun bs β W hS h0 => by
    obtain ⟨x, y, t1, G1, m1, rfl, hD, hA, b1, b2⟩ := hS
    obtain rfl : y = false := by simpa using h0
    have hAm := HA4.out.trans hA
    have gh := undo_age (HG.out _ _ hAm).2.1
    have hcn : m1.count ≤ 400000 := by
      have c1 := (HG.out _ _ hAm).2.2.2.2
      have c2 := HC.out
      simp only [Bool.false_eq_true, if_false] at c1
      split at c1 <;> omega
    refine (Undo_E hD.sys hcn x0.1 (fun xx s1 m2 hx => ?_)).mono ?_
    · rw [(ptDo_quiet w b).run, load_age (HG.out _ _ hAm).2.1] at hx
      cases hx
      simp [nd0]
    rintro e w' hE
    obtain ⟨t2, G2, u, rfl, hu, ha⟩ := hE.done (ptDo_quiet w b)
    rw [gh] at hu ha
    exact ⟨_, rfl, x, true, t2, G2, _, rfl, hD.aft ha, (hA.trans (AskN.ask m1)).le (by simp only [if_true, Bool.false_eq_true, if_false]; omega), fun e => by rw [FreeV.upd_ne (by decide)]; exact b1 e, fun _ => by rw [FreeV.upd_same]; exact hu⟩
  have hS0 : TwoS w0 b c r G w mK [false, false] (fun _ => undef) w4.drew := ⟨false, false, _, _, mK, rfl, hD.later (Below.refl _ _).drew, AskN.refl mK, fun e => (by cases e), fun e => (by cases e)⟩
  clear hD hA0 hm4 hmK k1 k3 k6 kq kr kx HD4
  go_wp2_with fail
  refine FreeV.region_puts (S := TwoS w0 b c r G w mK) (effs := [3, 9])
    (tab := [⟨2, fun _ => [.pointer (some ⟨zy, 1, none⟩)], fun _ => .int .i64 H, .read⟩,
      ⟨3, fun _ => [.func (.func 39) #[] #[], .pointer (some ⟨w.heap.size, 0, none⟩), .int .i64 H], fun β => β 3, .get⟩,
      ⟨6, fun _ => [.pointer (some ⟨zy, 6, none⟩)], fun _ => .slice (some ⟨g, o, none⟩) 2 hs.cap, .read⟩,
      ⟨7, fun _ => [.slice (some ⟨g, o, none⟩) 2 hs.cap, .int .i64 0], fun _ => .pointer (some ⟨g, o, none⟩), .pure⟩,
      ⟨8, fun _ => [.pointer (some ⟨g, o, none⟩)], fun _ => .int .i64 x0.1, .read⟩,
      ⟨9, fun _ => [.func (.func 38) #[] #[], .pointer (some ⟨w.heap.size, 0, none⟩), .int .i64 x0.1], fun β => β 9, .get⟩])
    (vs := [([], fun _ => .pointer (some ⟨w.heap.size, 0, none⟩)), ([], fun _ => .pointer (some ⟨zy, 1, none⟩)), ([], fun _ => .int .i64 H), ([3], fun l => l.getD 0 undef), ([], fun _ => .pointer (some ⟨w.heap.size, 0, none⟩)), ([], fun _ => .pointer (some ⟨zy, 6, none⟩)), ([], fun _ => .slice (some ⟨g, o, none⟩) 2 hs.cap), ([], fun _ => .pointer (some ⟨g, o, none⟩)), ([], fun _ => .int .i64 x0.1), ([9], fun l => l.getD 0 undef), ([3], fun l => l.getD 0 undef), ([9], fun l => l.getD 0 undef)])
    (by kernel_rfl) ⟨by kernel_rfl, ⟨FreeV.d_load _ rfl rfl (fun β bs W hS hd => load_3 (by obtain ⟨t1, G1, m1, hD⟩ := HS.out _ _ _ hS; exact (K0.out _ _ _ _ _ hD).1)),
      FreeV.d_get2 _ rfl rfl ent_39 0 rfl (fun β bs W hS hd => H39.out _ _ _ hS ((hd 0 3 rfl).2 (.inr rfl))),
      FreeV.d_load _ rfl rfl (fun β bs W hS hd => load_25 (by obtain ⟨t1, G1, m1, hD⟩ := HS.out _ _ _ hS; exact (K0.out _ _ _ _ _ hD).2.2.1)),
      FreeV.d_at _ rfl rfl (fun β W => at_25z g o 2 hs.cap (by decide) W),
      FreeV.d_load _ rfl rfl (fun β bs W hS hd => load_3 (by obtain ⟨t1, G1, m1, hD⟩ := HS.out _ _ _ hS; exact (K0.out _ _ _ _ _ hD).2.2.2.2.2)),
      FreeV.d_get2 _ rfl rfl ent_38 1 rfl (fun β bs W hS hd => H38.out _ _ _ hS ((hd 1 9 rfl).2 (.inr rfl))),
      trivial⟩,
      fun β => by kernel_rfl, fun β => by kernel_rfl, by kernel_rfl, fun β => by kernel_rfl, by kernel_rfl⟩ hS0 (fun β => Free.from_ 58 [.pointer (some ⟨w.heap.size, 0, none⟩), .pointer (some ⟨zy, 1, none⟩), .int .i64 H, β 3, .pointer (some ⟨w.heap.size, 0, none⟩), .pointer (some ⟨zy, 6, none⟩), .slice (some ⟨g, o, none⟩) 2 hs.cap, .pointer (some ⟨g, o, none⟩), .int .i64 x0.1, β 9] ++ [(14, β 3), (15, β 9)]) (fun β => by kernel_rfl) ?_
  intro β w5 h5
  obtain ⟨x, y, t5, G5, m5, e5, hD, hA5, b1, b2⟩ := h5
  cases e5
  have b3 := b1 rfl
  have b9 := b2 rfl
  rw [b3, b9]
  have hA0 := HA4.out.trans hA5
  clear b1 b2 b3 b9 HS H39 H38 HA4 hA5
  obtain ⟨k1, k3, k6, kq, kr, kx⟩ := K0.out _ _ _ _ _ hD
  rw [FreeX.puts_append, Free.puts_from _ _ _ (Nat.le_of_ble_eq_true rfl)]
  simp only [List.take_succ_cons, List.take_zero, List.drop_succ_cons, List.drop_zero, List.cons_append, List.nil_append, List.length_cons, List.length_nil, Nat.reduceAdd]
  unfold Free.puts
  simp only [List.foldl_cons, List.foldl_nil]
  obtain ⟨ag6, e6, m6, gh, hA6, hr6⟩ := HR.out _ _ hA0
  have hl := Take_E hD.sys (by have := (HG.out _ _ hA0).2.2.2.2; have := HC.out; omega) q
  have HDx := Lib.hid hD
  have HAx := Lib.hid hA0
  clear hD hA0
  go_wp2_with fail
  refine hl.mono ?_
  rintro e w6 hE
  obtain ⟨t6, G6, u, rfl, ⟨q6, hin, rfl⟩, ha⟩ := hE.done (ptDo_quiet w b)
  rw [gh] at hin ha ⊢
  simp only at ha ⊢
  unfold Ag.v
  have hD := HDx.out.aft ha
  have hA0 := HAx.out.trans (hA6)
  obtain ⟨v6, hv6⟩ : ∃ W, W = w6.alloc (.cells (ag6.row q6).toArray 42) := ⟨_, rfl⟩
  replace hD := hD.later (w2 := v6) (by rw [hv6]; exact (Below.refl _ _).alloc (Nat.le_refl _) _)
  have HW6 := Lib.hid hv6.symm
  simp only [Ag.row] at HW6
  clear hin gh hA6
  clear hl hE ha HDx HAx k1 k3 k6 kq kr kx hv6
  obtain ⟨k1, k3, k6, kq, kr, kx⟩ := K0.out _ _ _ _ _ hD
  obtain ⟨v7, hv7⟩ : ∃ W, W = v6.alloc (.cells #[.string ⟨#[]⟩, .int .i64 x0.1, .slice none 0 0] 27) := ⟨_, rfl⟩
  have hb7 : Below v6.heap.size v6 v7 := by rw [hv7]; exact (Below.refl _ _).alloc (Nat.le_refl _) _
  have sn : SVar v7 v6.heap.size [.string ⟨#[]⟩, .int .i64 x0.1, .slice none 0 0] := by rw [hv7]; exact snew _ _ _
  have ln : Loc w0 b c r w.heap.size t6 G6 v7 v6.heap.size := by rw [hv7]; exact hD.sys.fresh _
  replace hD := hD.later hb7
  have HW7 := Lib.hid hv7.symm
  have gh := up_blk (v := 9223372036854775807) (HG.out _ _ hA0).2.1
  have hne : ((newestP 40 x0.1).run (ptDo w b) m6).1 ≠ some none := by rw [(ptDo_quiet w b).run, newestP, gh]; simp
  have hld := sn.load sh27
  have hm6 : m6.count + 3 * ((40 : Nat) : Int) ≤ 700000 := by have := (HG.out _ _ hA0).2.2.2.2; have := HC.out; omega
  have hl := Newest_E hD.sys 40 hm6 ⟨⟨#[]⟩, x0.1, []⟩ .nil hne
  have HDx := Lib.hid hD
  have HAx := Lib.hid hA0
  have HSn := Lib.hid (⟨sn, ln⟩ : _ ∧ _)
  unfold Nd.v at hl
  simp only [Pl.nil, Sl.nil] at hl
  clear hD hA0 hv7 hb7 sn ln hne hm6
  go_wp2_with (first | rw [HW6.out] | rw [HW7.out] | ((with_reducible refine load_run ?_ (.tmp 18) 27 ?_ ?_ hld ?_); exact rfl; exact rfl; exact rfl) | fail)
  refine hl.mono ?_
  rintro e w8 hE
  obtain ⟨t8, G8, u, rfl, ⟨xx, q8, hx, hin, rfl⟩, ha⟩ := hE.done (ptDo_quiet w b)
  unfold newestP at hx ha
  rw [gh] at hx ha
  cases hx
  simp only at hin ha ⊢
  obtain ⟨sn, ln⟩ := HSn.out
  obtain ⟨sn8, ln8⟩ := ha.svar ln sn
  obtain ⟨sp8, hsp⟩ : ∃ s, s = sp0 := ⟨_, rfl⟩
  rw [← hsp]
  unfold Ag.v
  have hD := HDx.out.aft ha
  have hA0 := HAx.out.trans (AskN.ask _)
  obtain ⟨v8, hv8⟩ : ∃ W, W = w8.alloc (.cells (sp8.a.row q8).toArray 42) := ⟨_, rfl⟩
  replace hD := hD.later (w2 := v8) (by rw [hv8]; exact (Below.refl _ _).alloc (Nat.le_refl _) _)
  have HW8 := Lib.hid hv8.symm
  replace sn8 : SVar v8 v6.heap.size _ := sn8.later (by rw [hv8]; exact (Below.refl _ _).alloc (Nat.le_refl _) _)
  replace ln8 : Loc w0 b c r w.heap.size t8 G8 v8 v6.heap.size := ln8.same (by rw [hv8]; simp)
  simp only [Ag.row] at HW8
  clear hin gh hsp hld HSn sn ln HW6 HW7
  clear hl hE ha HDx HAx k1 k3 k6 kq kr kx hv8
  obtain ⟨k1, k3, k6, kq, kr, kx⟩ := K0.out _ _ _ _ _ hD
  have gh := up_blk (v := 5) (HG.out _ _ hA0).2.1
  have hld := sn8.load sh27
  have hm8 : (m6.ask).count + 3 * ((40 : Nat) : Int) ≤ 700000 := by have := (HG.out _ _ hA0).2.2.2.2; have := HC.out; omega
  have hl := At_E hD.sys 40 hm8 ⟨⟨#[]⟩, x0.1, []⟩ .nil 5 (by rw [(ptDo_quiet w b).run, gh]; simp)
  have HDx := Lib.hid hD
  have HAx := Lib.hid hA0
  unfold Nd.v at hl
  simp only [Pl.nil, Sl.nil] at hl
  clear hD hA0 hm8 sn8 ln8
  go_wp2_with (first | rw [HW8.out] | ((with_reducible refine load_run ?_ (.tmp 18) 27 ?_ ?_ hld ?_); exact rfl; exact rfl; exact rfl) | fail)
  refine hl.mono ?_
  rintro e w9 hE
  obtain ⟨t9, G9, u, rfl, ⟨xx, q9, hx, hin, rfl⟩, ha⟩ := hE.done (ptDo_quiet w b)
  rw [gh] at hx ha
  cases hx
  simp only at hin ha ⊢
  obtain ⟨sp9, hsp⟩ : ∃ s, s = sp0 := ⟨_, rfl⟩
  rw [← hsp]
  unfold Ag.v
  have hD := HDx.out.aft ha
  have hA0 := HAx.out.trans (AskN.ask _)
  obtain ⟨v9, hv9⟩ : ∃ W, W = w9.alloc (.cells (sp9.a.row q9).toArray 42) := ⟨_, rfl⟩
  replace hD := hD.later (w2 := v9) (by rw [hv9]; exact (Below.refl _ _).alloc (Nat.le_refl _) _)
  have HW9 := Lib.hid hv9.symm
  simp only [Ag.row] at HW9
  clear hin gh hsp hld HW8
  clear hl hE ha HDx HAx k1 k3 k6 kq kr kx hv9
  obtain ⟨k1, k3, k6, kq, kr, kx⟩ := K0.out _ _ _ _ _ hD
  have gh := cut_none (v := 5) (HG.out _ _ hA0).2.2.2.1
  have hm9 : (m6.ask.ask).count + 6 * ((40 : Nat) : Int) ≤ 300000 := by have := (HG.out _ _ hA0).2.2.2.2; have := HC.out; omega
  have hl := Cut_E hD.sys 40 hm9 ⟨⟨#[]⟩, 0, []⟩ .nil 5 (by rw [(ptDo_quiet w b).run, gh]; simp)
  have HDx := Lib.hid hD
  have HAx := Lib.hid hA0
  unfold Nd.v at hl
  simp only [Pl.nil, Sl.nil] at hl
  clear hD hA0 hm9
  go_wp2_with (first | rw [HW9.out] | fail)
  refine hl.mono ?_
  rintro e w10 hE
  obtain ⟨t10, G10, u, rfl, ⟨xx, sl10, hx, hin, rfl⟩, ha⟩ := hE.done (ptDo_quiet w b)
  rw [gh] at hx ha
  cases hx
  simp only at hin ha ⊢
  have hD := HDx.out.aft ha
  have hA0 := HAx.out.trans (AskN.miss _)
  clear hin gh HW9
  clear hl hE ha HDx HAx k1 k3 k6 kq kr kx
  obtain ⟨k1, k3, k6, kq, kr, kx⟩ := K0.out _ _ _ _ _ hD
  have HB : Hid (Behind w0 b c r G w m [x0, x1] 2 w10) := ⟨G10, _, hD.but, hD.sys.mem, hD.gro, HFl.out _ _ hA0 (by omega)⟩
  clear hD hA0 k1 k3 k6 kq kx
  cases rw_ with
  | false =>
    go_wp2_with fail
    go_ret
    exact ⟨_, rfl, rfl, HB.out⟩
  | true =>
    rcases hr6 rfl with rfl | rfl
    all_goals
      go_wp2_with fail
      go_ret
      exact ⟨_, rfl, rfl, HB.out⟩
end
end Go.Proofs.YtbcpdkmbbgcfbaaDoor
