/- DescFull's closure. Condition: the library's table stands. -/
import Derived.Test.YteiikkkcjpfapaaDoorLFt
namespace Go.Proofs.YteiikkkcjpfapaaDoor
open Go.RowKit Go.Op
set_option maxRecDepth 100000

def fl0 (n : Nat) : M := (initP.go (M.new (3 + n))).2
def fl1 (n : Nat) : M := ((makeP 1 0 []).go (fl0 n)).2
def fl2 (n : Nat) : M := ((undoP 5).go (fl1 n)).2
def fl3 (n : Nat) : M := ((makeP 1 0 []).go (fl2 n)).2
def fl4 (n : Nat) : M := ((dropP 65541 4).go (fl3 n)).2
def fl5 (n : Nat) : M := reapS 4 (fl4 n) (3 + n)
def fl6 (n : Nat) : M := reapS 5 (fl5 n) (3 + n)
theorem fl_0 : ∀ n, n < 6 → (initP.go (M.new (3 + n))).1 = (3, 0) ∧ (fl0 n).live = 3 ∧ (fl0 n).count ≤ 100 := by decide +kernel
theorem fl_few : ∀ n, n < 2 → ((makeP 1 0 []).go (fl0 n)).1 = (0, 3) ∧ (fl1 n).live = 3 := by decide +kernel
theorem fl_n : ∀ n, n < 6 → 2 ≤ n → ((makeP 1 0 []).go (fl0 n)).1 = (5, 0) ∧ (fl1 n).live = 5 ∧ (fl1 n).count ≤ 100 ∧ ((undoP 5).go (fl1 n)).1 = 0 ∧ (fl2 n).live = 3 ∧ (fl2 n).count ≤ 100 ∧ ((makeP 1 0 []).go (fl2 n)).1 = (65541, 0) ∧ (fl3 n).count ≤ 100 ∧ ((dropP 65541 4).go (fl3 n)).1 = 0 ∧ (fl4 n).live = 5 ∧ (fl4 n).count ≤ 100 ∧ (fl4 n).cells.length = 3 + n := by decide +kernel
theorem fl_m : ∀ n, n < 6 → 2 ≤ n → (fl5 n).live = 5 ∧ (fl5 n).count ≤ 100 ∧ (fl5 n).cells.length = 3 + n ∧ (fl6 n).live = 3 ∧ (fl6 n).count ≤ 100 ∧ ((heldP 65541).go (fl6 n)).1.2 = 5 := by decide +kernel
/-- What the law's region knows of memory and its variables. -/
structure FAt (b zy zl : Nat) (live : Int) (W : World) : Prop where
  y0 : W.cell? ⟨zy, 0, none⟩ = some (.pointer (some ⟨b, 0, none⟩))
  l0 : W.cell? ⟨zl, 0, none⟩ = some (.int .i64 3)
  live : Calls Tryd.prog 29 #[.pointer (some ⟨b, 0, none⟩)] W fun e w' => e = .returned (.int .i64 live) ∧ W = w'
/-- In the midst of the closure. -/
structure FCl (w0 : World) (b c r : Nat) (w : World) (G : List (Nat × List Sw)) (zy : Nat) (v : Value) (zl : Nat) (t1 : Value) (G1 : List (Nat × List Sw)) (w1 : World) (m : M) : Prop where
  clo : Clo w0 b c r [b, c, r] w G zy 3 v t1 G1 w1 m
  l0 : w1.cell? ⟨zl, 0, none⟩ = some (.int .i64 3)
  ll : LocM w0 b c r G w zl
section
variable {w0 : World} {b c r : Nat} {w : World} {G G1 : List (Nat × List Sw)} {zy : Nat} {v : Value} {zl : Nat} {t1 : Value} {w1 w2 : World} {m : M}
theorem FCl.step {α : Type} {R : List (Nat × List Sw) → α → Value → Prop} {p : Pr α} {e : Ending} (h : FCl w0 b c r w G zy v zl t1 G1 w1 m) (hE : Ev w0 b c r w.heap.size 0 t1 G1 w1 R (p.run (ptDo w b) m) e w2) :
    ∃ t2 G2 u, e = .returned u ∧ R G2 (p.go m).1 u ∧ FCl w0 b c r w G zy v zl t2 G2 w2 (p.go m).2 := by
  obtain ⟨t2, G2, u, e1, hR, hC, ha⟩ := h.clo.step hE
  exact ⟨t2, G2, u, e1, hR, hC, (World.cell?_of_block (w := w1) (a := ⟨zl, 0, none⟩) ((h.ll.loc h.clo.dgo).aft ha).2).trans h.l0, h.ll⟩
theorem FCl.step1 {R : List (Nat × List Sw) → An → Value → Prop} {q : Qn} {e : Ending} (h : FCl w0 b c r w G zy v zl t1 G1 w1 m) (hE : Ev w0 b c r w.heap.size 0 t1 G1 w1 R ((ptDo w b).ask q m) e w2) :
    ∃ t2 G2 u, e = .returned u ∧ R G2 (q.on m).2 u ∧ FCl w0 b c r w G zy v zl t2 G2 w2 (q.on m).1 := by
  obtain ⟨t2, G2, u, e1, hR, hC, ha⟩ := h.clo.step1 hE
  exact ⟨t2, G2, u, e1, hR, hC, (World.cell?_of_block (w := w1) (a := ⟨zl, 0, none⟩) ((h.ll.loc h.clo.dgo).aft ha).2).trans h.l0, h.ll⟩
theorem FCl.later (h : FCl w0 b c r w G zy v zl t1 G1 w1 m) (hb : Below w1.heap.size w1 w2) : FCl w0 b c r w G zy v zl t1 G1 w2 m :=
  ⟨h.clo.later hb, (World.cell?_of_block (w := w1) (a := ⟨zl, 0, none⟩) (hb.block zl (h.ll.loc h.clo.dgo).lt)).trans h.l0, h.ll⟩
theorem FCl.at_ (h : FCl w0 b c r w G zy v zl t1 G1 w1 m) (x : Int) (hx : m.live = x) : FAt b zy zl x w1 := ⟨h.clo.y.c0, h.l0, by subst hx; exact live_E h.clo.sys.mem⟩
end
/-- Behind a call in a region. -/
def FPost (w0 : World) (b c r : Nat) (w : World) (G : List (Nat × List Sw)) (zy : Nat) (v : Value) (zl : Nat) (m : M) (live : Int) (u : Value) (W : World) : Prop :=
  u = .int .i64 0 ∧ (FAt b zy zl live W ∧ ∃ t2 G2, FCl w0 b c r w G zy v zl t2 G2 W m)
theorem fl_x : ∀ n, n < 6 → 2 ≤ n → ((heldP 65541).go (fl6 n)).2.live = 3 := by decide +kernel
section
variable {w0 : World} {b c r : Nat} {w : World} {G G1 : List (Nat × List Sw)} {zy : Nat} {v : Value} {zl : Nat} {t1 : Value} {w1 w2 : World} {m m' : M}
theorem FCl.undo (h : FCl w0 b c r w G zy v zl t1 G1 w1 m) (hc : m.count ≤ 700000) (k x : Int) (e1 : ((undoP k).go m).1 = 0) (e2 : ((undoP k).go m).2 = m') (hl : m'.live = x) : Calls Tryd.prog 32 #[.pointer (some ⟨w.heap.size, 0, none⟩), .int .i64 k] w1 fun e w' => ∃ u, e = .returned u ∧ FPost w0 b c r w G zy v zl m' x u w' := by
  refine (undo_E h.clo.sys hc k).mono fun e w' hE => ?_
  obtain ⟨t2, G2, u, rfl, hv, hC2⟩ := h.step hE
  replace hv : u = .int .i64 ((undoP k).go m).1 := hv
  rw [e1] at hv
  rw [e2] at hC2
  exact ⟨u, rfl, hv, hC2.at_ x hl, t2, G2, hC2⟩
theorem FCl.drop (h : FCl w0 b c r w G zy v zl t1 G1 w1 m) (hc : m.count ≤ 700000) (k st x : Int) (e1 : ((dropP k st).go m).1 = 0) (e2 : ((dropP k st).go m).2 = m') (hl : m'.live = x) : Calls Tryd.prog 33 #[.pointer (some ⟨w.heap.size, 0, none⟩), .int .i64 k, .int .i64 st] w1 fun e w' => ∃ u, e = .returned u ∧ FPost w0 b c r w G zy v zl m' x u w' := by
  refine (drop_E h.clo.sys hc k st).mono fun e w' hE => ?_
  obtain ⟨t2, G2, u, rfl, hv, hC2⟩ := h.step hE
  replace hv : u = .int .i64 ((dropP k st).go m).1 := hv
  rw [e1] at hv
  rw [e2] at hC2
  exact ⟨u, rfl, hv, hC2.at_ x hl, t2, G2, hC2⟩
end
theorem fl2_eq (n : Nat) : ((undoP 5).go (fl1 n)).2 = fl2 n := rfl
theorem fl4_eq (n : Nat) : ((dropP 65541 4).go (fl3 n)).2 = fl4 n := rfl
set_option maxHeartbeats 600000 in
theorem full1_any {w0 w : World} {b c r : Nat} {G : List (Nat × List Sw)} {zn zy zl : Nat} {v : Value} (n : Nat) (hn : n < 6) (h : HasE w0 b c r G w (fl0 n)) (hT : TabAt w0) (hy : YVar w zy b 3 v) (ly : LocM w0 b c r G w zy)
    (hl : w.cell? ⟨zl, 0, none⟩ = some (.int .i64 3)) (ll : LocM w0 b c r G w zl) (hnn : w.cell? ⟨zn, 0, none⟩ = some (.int .i64 (n : Int))) (ln : zn < w.heap.size ∧ zn ≠ b ∧ zn ≠ c ∧ zn ≠ r) :
    Calls Tryd.prog 30 (#[.pointer (some ⟨w.heap.size, 0, none⟩)] ++ #[.pointer (some ⟨zn, 0, none⟩), .pointer (some ⟨zy, 0, none⟩), .pointer (some ⟨zl, 0, none⟩)]) (w.alloc (portObj b)) fun e w' => ∃ u, e = .returned u ∧ u = .iface 4 (.bool true) ∧ ButN [b, c, r] w.heap.size w w' := by
  have hb0 := (Below.refl w.heap.size w).alloc (Nat.le_refl _) (portObj b)
  have hC : FCl w0 b c r w G zy v zl (.slice none 0 0) G (w.alloc (portObj b)) (fl0 n) := ⟨Clo.start h (Z := [b, c, r]) ⟨by simp, by simp, by simp⟩ hy ly, (World.cell?_of_block (w := w) (a := ⟨zl, 0, none⟩) (hb0.block zl ll.lt)).trans hl, ll⟩
  have h1 := make_E hC.clo.sys hT (by have := (fl_0 n hn).2.2; omega) 1 0 none 0 [] (by simp) (by simp) (.inl rfl)
  simp only [List.length_nil] at h1
  have HC := Lib.hid hC
  have HN : Hid (∀ t1 G1 w1 m, FCl w0 b c r w G zy v zl t1 G1 w1 m → w1.cell? ⟨zn, 0, none⟩ = some (.int .i64 (n : Int))) := fun t1 G1 w1 m h => by
    rw [World.cell?_of_block (w := w) (a := ⟨zn, 0, none⟩) (h.clo.dgo.but.block zn ln.1 (by have := ln.2; simp; omega))]
    exact hnn
  have m4 := mkb4
  show Calls Tryd.prog 30 #[.pointer (some ⟨w.heap.size, 0, none⟩), .pointer (some ⟨zn, 0, none⟩), .pointer (some ⟨zy, 0, none⟩), .pointer (some ⟨zl, 0, none⟩)] (w.alloc (portObj b)) _
  clear h hy hC hl ll hnn ln ly hb0
  generalize hwp : w.alloc (portObj b) = wp at *
  go_enter Tryd.func30, Tryd.ntmps30
  go_wp2_with fail
  refine h1.mono ?_
  rintro e w1 hE
  obtain ⟨t1, G1, u, rfl, hv, hC1⟩ := HC.out.step hE
  replace hv : u = .tuple #[.int .i64 ((makeP 1 0 []).go (fl0 n)).1.1, .int .i64 ((makeP 1 0 []).go (fl0 n)).1.2] := hv
  replace hC1 : FCl w0 b c r w G zy v zl t1 G1 w1 (fl1 n) := hC1
  have cn := HN.out _ _ _ _ hC1
  clear h1 hE HC
  by_cases h2 : n < 2
  · have i2 : (n : Int) < 2 := by omega
    rw [(fl_few n h2).1] at hv
    simp only at hv
    subst hv
    have hat := hC1.at_ 3 (fl_few n h2).2
    have y0 := hat.y0
    have l0 := hat.l0
    have HLV : Hid (∀ k, Calls Tryd.prog 29 #[.pointer (some ⟨b, 0, none⟩)] (w1.drewN k) fun e w' => e = .returned (.int .i64 3) ∧ w1.drewN k = w') := fun k => ((hC1.later (below_drewN w1 k)).at_ 3 (fl_few n h2).2).live
    have HB : Hid (∀ k, ButN [b, c, r] w.heap.size w (w1.drewN k)) := fun k => (hC1.later (below_drewN w1 k)).clo.dgo.but
    clear hC1 hat
    go_wp2_with fail
    go_quiet ((go_at_call 29; exact Calls.quiet_of_same ((HLV.out _).mono fun _ _ ⟨p, q⟩ => ⟨p, q.symm⟩)))
    go_wp2
    go_ret
    exact ⟨_, rfl, rfl, HB.out _⟩
  · have i2 : ¬ (n : Int) < 2 := by omega
    have HF := Lib.hid (fl_n n hn (by omega))
    have HG := Lib.hid (fl_m n hn (by omega))
    rw [HF.out.1] at hv
    simp only at hv
    subst hv
    have HA : Hid (∀ W, Below w1.heap.size w1 W → FAt b zy zl 5 W) := fun W hb => (hC1.later hb).at_ 5 HF.out.2.1
    have HU : Hid (∀ W, Below w1.heap.size w1 W → Calls Tryd.prog 32 #[.pointer (some ⟨w.heap.size, 0, none⟩), .int .i64 5] W fun e w' => ∃ u, e = .returned u ∧ FPost w0 b c r w G zy v zl (fl2 n) 3 u w') := fun W hb =>
      (hC1.later hb).undo (by have := HF.out.2.2.1; omega) 5 3 HF.out.2.2.2.1 (fl2_eq n) HF.out.2.2.2.2.1
    clear hC1
    go_wp2_with fail
    refine FreeV.region_puts (S := UMid w1 13 (FPost w0 b c r w G zy v zl (fl2 n) 3)) (effs := [13])
      (tab := [⟨1, fun _ => [.int .i64 0, .int .i64 0], fun _ => .bool false, .pure⟩,
        ⟨4, fun _ => [.pointer (some ⟨zy, 0, none⟩)], fun _ => .pointer (some ⟨b, 0, none⟩), .read⟩,
        ⟨5, fun _ => [.func (.func 29) #[] #[], .pointer (some ⟨b, 0, none⟩)], fun _ => .int .i64 5, .ask⟩,
        ⟨6, fun _ => [.pointer (some ⟨zl, 0, none⟩)], fun _ => .int .i64 3, .read⟩,
        ⟨7, fun _ => [.int .i64 3, .int .i64 2], fun _ => .int .i64 5, .pure⟩,
        ⟨8, fun _ => [.int .i64 5, .int .i64 5], fun _ => .bool false, .pure⟩,
        ⟨13, fun _ => [.func (.func 32) #[] #[], .pointer (some ⟨w.heap.size, 0, none⟩), .int .i64 5], fun β => (β 13), .get⟩,
        ⟨14, fun β => [(β 13), .int .i64 0], fun _ => .bool false, .read⟩,
        ⟨18, fun _ => [.pointer (some ⟨zy, 0, none⟩)], fun _ => .pointer (some ⟨b, 0, none⟩), .read⟩,
        ⟨19, fun _ => [.func (.func 29) #[] #[], .pointer (some ⟨b, 0, none⟩)], fun _ => .int .i64 3, .ask⟩,
        ⟨20, fun _ => [.pointer (some ⟨zl, 0, none⟩)], fun _ => .int .i64 3, .read⟩,
        ⟨21, fun _ => [.int .i64 3, .int .i64 3], fun _ => .bool false, .pure⟩])
      (vs := [([], fun _ => .int .i64 0), ([], fun _ => .bool false), ([], fun _ => .bool false), ([], fun _ => .pointer (some ⟨zy, 0, none⟩)), ([], fun _ => .pointer (some ⟨b, 0, none⟩)), ([], fun _ => .int .i64 5), ([], fun _ => .int .i64 3), ([], fun _ => .int .i64 5), ([], fun _ => .bool false), ([], fun _ => .bool false), ([], fun _ => .bool false), ([], fun _ => .pointer (some ⟨w.heap.size, 0, none⟩)), ([], fun _ => .int .i64 5), ([13], fun l => l.headD undef), ([], fun _ => .bool false), ([], fun _ => .bool false), ([], fun _ => .bool false), ([], fun _ => .pointer (some ⟨zy, 0, none⟩)), ([], fun _ => .pointer (some ⟨b, 0, none⟩)), ([], fun _ => .int .i64 3), ([], fun _ => .int .i64 3), ([], fun _ => .bool false), ([], fun _ => .bool false)])
      (by kernel_rfl) ⟨by kernel_rfl, ⟨FreeV.d_bin _ rfl rfl (fun _ xo yo w => cmp_neq44 xo yo w (by decide)),
        FreeV.d_load _ rfl rfl (fun β bs w h hd => load_24 ((HA.out _ (h.1 ((hd 0 13 rfl).2 (.inl (by kernel_rfl))))).y0)),
        FreeV.d_ask1 _ rfl rfl enter_29 (fun β bs w h hd => ((HA.out _ (h.1 ((hd 0 13 rfl).2 (.inl (by kernel_rfl))))).live).mono (fun e w2 ⟨e1, e2⟩ => ⟨e1, e2 ▸ h⟩)),
        FreeV.d_load _ rfl rfl (fun β bs w h hd => load_3 ((HA.out _ (h.1 ((hd 0 13 rfl).2 (.inl (by kernel_rfl))))).l0)),
        FreeV.d_bin _ rfl rfl (fun _ xo yo w => cmp_add3 xo yo w ⟨rfl, by omega, by omega⟩),
        FreeV.d_bin _ rfl rfl (fun _ xo yo w => cmp_neq3 xo yo w (by decide)),
        FreeV.d_get2 _ rfl rfl enter_32 0 rfl (fun β bs w h hd => umid_call h ((hd 0 13 rfl).2 (.inr rfl)) HU.out),
        FreeV.d_binr _ rfl rfl (fun β bs xo yo w h hd => neq44_read (h.2 ((hd 0 13 rfl).1 (by kernel_rfl))).1 (by decide) xo yo w),
        FreeV.d_load _ rfl rfl (fun β bs w h hd => load_24 ((h.2 ((hd 0 13 rfl).1 (by kernel_rfl))).2.1.y0)),
        FreeV.d_ask1 _ rfl rfl enter_29 (fun β bs w h hd => ((h.2 ((hd 0 13 rfl).1 (by kernel_rfl))).2.1.live).mono (fun e w2 ⟨e1, e2⟩ => ⟨e1, e2 ▸ h⟩)),
        FreeV.d_load _ rfl rfl (fun β bs w h hd => load_3 ((h.2 ((hd 0 13 rfl).1 (by kernel_rfl))).2.1.l0)),
        FreeV.d_bin _ rfl rfl (fun _ xo yo w => cmp_neq3 xo yo w (by decide)),
        trivial⟩,
        fun β => by kernel_rfl, fun β => by kernel_rfl, by kernel_rfl, fun β => by kernel_rfl, by kernel_rfl⟩ umid_start (fun β => Free.from_ 35 [.int .i64 0, .bool false, .bool false, .pointer (some ⟨zy, 0, none⟩), .pointer (some ⟨b, 0, none⟩), .int .i64 5, .int .i64 3, .int .i64 5, .bool false, .bool false, .bool false, .pointer (some ⟨w.heap.size, 0, none⟩), .int .i64 5, (β 13), .bool false, .bool false, .bool false, .pointer (some ⟨zy, 0, none⟩), .pointer (some ⟨b, 0, none⟩), .int .i64 3, .int .i64 3, .bool false, .bool false]) (fun β => by kernel_rfl) ?_
    intro β w2 h2
    obtain ⟨e13, hP⟩ := h2.2 rfl
    simp only [e13]
    clear h2 e13
    rw [Free.puts_from _ _ _ (Nat.le_of_ble_eq_true rfl)]
    simp only [List.take_succ_cons, List.take_zero, List.drop_succ_cons, List.drop_zero, List.cons_append, List.nil_append, List.length_cons, List.length_nil, Nat.reduceAdd]
    obtain ⟨-, t2, G2, hC2⟩ := hP
    have h3 := make_E hC2.clo.sys hT (by have := HF.out.2.2.2.2.2.1; omega) 1 0 none 0 [] (by simp) (by simp) (.inl rfl)
    simp only [List.length_nil] at h3
    have HC2 := Lib.hid hC2
    clear hC2 HA HU cn
    go_wp2_with fail
    refine h3.mono ?_
    rintro e w4 hE
    obtain ⟨t4, G4, u, rfl, hv, hC4⟩ := HC2.out.step hE
    replace hv : u = .tuple #[.int .i64 ((makeP 1 0 []).go (fl2 n)).1.1, .int .i64 ((makeP 1 0 []).go (fl2 n)).1.2] := hv
    rw [HF.out.2.2.2.2.2.2.1] at hv
    simp only at hv
    subst hv
    replace hC4 : FCl w0 b c r w G zy v zl t4 G4 w4 (fl3 n) := hC4
    have HU : Hid (∀ W, Below w4.heap.size w4 W → Calls Tryd.prog 33 #[.pointer (some ⟨w.heap.size, 0, none⟩), .int .i64 65541, .int .i64 4] W fun e w' => ∃ u, e = .returned u ∧ FPost w0 b c r w G zy v zl (fl4 n) 5 u w') := fun W hb =>
      (hC4.later hb).drop (by have := HF.out.2.2.2.2.2.2.2.1; omega) 65541 4 5 HF.out.2.2.2.2.2.2.2.2.1 (fl4_eq n) HF.out.2.2.2.2.2.2.2.2.2.1
    clear h3 hE HC2 hC4
    go_wp2_with fail
    refine FreeV.region_puts (S := UMid w4 10 (FPost w0 b c r w G zy v zl (fl4 n) 5)) (effs := [10])
      (tab := [⟨1, fun _ => [.int .i64 0, .int .i64 0], fun _ => .bool false, .pure⟩,
        ⟨5, fun _ => [.int .i64 65541, .int .i64 5], fun _ => .bool false, .pure⟩,
        ⟨10, fun _ => [.func (.func 33) #[] #[], .pointer (some ⟨w.heap.size, 0, none⟩), .int .i64 65541, .int .i64 4], fun β => (β 10), .get⟩,
        ⟨11, fun β => [(β 10), .int .i64 0], fun _ => .bool false, .read⟩,
        ⟨15, fun _ => [.pointer (some ⟨zy, 0, none⟩)], fun _ => .pointer (some ⟨b, 0, none⟩), .read⟩,
        ⟨16, fun _ => [.func (.func 29) #[] #[], .pointer (some ⟨b, 0, none⟩)], fun _ => .int .i64 5, .ask⟩,
        ⟨17, fun _ => [.pointer (some ⟨zl, 0, none⟩)], fun _ => .int .i64 3, .read⟩,
        ⟨18, fun _ => [.int .i64 3, .int .i64 2], fun _ => .int .i64 5, .pure⟩,
        ⟨19, fun _ => [.int .i64 5, .int .i64 5], fun _ => .bool false, .pure⟩])
      (vs := [([], fun _ => .int .i64 0), ([], fun _ => .bool false), ([], fun _ => .bool false), ([], fun _ => .int .i64 65541), ([], fun _ => .int .i64 5), ([], fun _ => .bool false), ([], fun _ => .bool false), ([], fun _ => .bool false), ([], fun _ => .pointer (some ⟨w.heap.size, 0, none⟩)), ([], fun _ => .int .i64 65541), ([10], fun l => l.headD undef), ([], fun _ => .bool false), ([], fun _ => .bool false), ([], fun _ => .bool false), ([], fun _ => .pointer (some ⟨zy, 0, none⟩)), ([], fun _ => .pointer (some ⟨b, 0, none⟩)), ([], fun _ => .int .i64 5), ([], fun _ => .int .i64 3), ([], fun _ => .int .i64 5), ([], fun _ => .bool false), ([], fun _ => .bool false)])
      (by kernel_rfl) ⟨by kernel_rfl, ⟨FreeV.d_bin _ rfl rfl (fun _ xo yo w => cmp_neq44 xo yo w (by decide)),
        FreeV.d_bin _ rfl rfl (fun _ xo yo w => cmp_eql3 xo yo w (by decide)),
        FreeV.d_get3 _ rfl rfl enter_33 0 rfl (fun β bs w h hd => umid_call h ((hd 0 10 rfl).2 (.inr rfl)) HU.out),
        FreeV.d_binr _ rfl rfl (fun β bs xo yo w h hd => neq44_read (h.2 ((hd 0 10 rfl).1 (by kernel_rfl))).1 (by decide) xo yo w),
        FreeV.d_load _ rfl rfl (fun β bs w h hd => load_24 ((h.2 ((hd 0 10 rfl).1 (by kernel_rfl))).2.1.y0)),
        FreeV.d_ask1 _ rfl rfl enter_29 (fun β bs w h hd => ((h.2 ((hd 0 10 rfl).1 (by kernel_rfl))).2.1.live).mono (fun e w2 ⟨e1, e2⟩ => ⟨e1, e2 ▸ h⟩)),
        FreeV.d_load _ rfl rfl (fun β bs w h hd => load_3 ((h.2 ((hd 0 10 rfl).1 (by kernel_rfl))).2.1.l0)),
        FreeV.d_bin _ rfl rfl (fun _ xo yo w => cmp_add3 xo yo w ⟨rfl, by omega, by omega⟩),
        FreeV.d_bin _ rfl rfl (fun _ xo yo w => cmp_neq3 xo yo w (by decide)),
        trivial⟩,
        fun β => by kernel_rfl, fun β => by kernel_rfl, by kernel_rfl, fun β => by kernel_rfl, by kernel_rfl⟩ umid_start (fun β => Free.from_ 64 [.int .i64 0, .bool false, .bool false, .int .i64 65541, .int .i64 5, .bool false, .bool false, .bool false, .pointer (some ⟨w.heap.size, 0, none⟩), .int .i64 65541, (β 10), .bool false, .bool false, .bool false, .pointer (some ⟨zy, 0, none⟩), .pointer (some ⟨b, 0, none⟩), .int .i64 5, .int .i64 3, .int .i64 5, .bool false, .bool false]) (fun β => by kernel_rfl) ?_
    intro β w5 h5
    obtain ⟨e10, hP⟩ := h5.2 rfl
    simp only [e10]
    clear h5 e10
    rw [Free.puts_from _ _ _ (Nat.le_of_ble_eq_true rfl)]
    simp only [List.take_succ_cons, List.take_zero, List.drop_succ_cons, List.drop_zero, List.cons_append, List.nil_append, List.length_cons, List.length_nil, Nat.reduceAdd]
    obtain ⟨-, t5, G5, hC5⟩ := hP
    have HC5 := Lib.hid hC5
    clear hC5 HU
    go_wp2_with fail
    go_loopw [10] (fun iv wr => ∃ i : Nat, iv = .int .i64 (i : Int) ∧ i ≤ 3 + n ∧ Hid (∃ t2 G2, FCl w0 b c r w G zy v zl t2 G2 wr (reapS 4 (fl4 n) i))) (fun iv _ => 3 + n - (intOf iv).toNat)
    case atStart => exact ⟨0, rfl, Nat.zero_le _, ⟨t5, G5, HC5.out⟩⟩
    case round =>
      obtain ⟨i4, rfl, hi, hR⟩ := hrel
      obtain ⟨t6, G6, hC6⟩ := hR.out
      have hlen : (reapS 4 (fl4 n) i4).cells.length = 3 + n := by rw [reapS_len]; exact HF.out.2.2.2.2.2.2.2.2.2.2.2
      have hpc := pcells_E hC6.clo.sys
      rw [hlen] at hpc
      have HC6 := Lib.hid hC6
      clear hR hC6 hlen HC5
      go_wp2_with fail
      refine hpc.mono ?_
      rintro e w7 ⟨rfl, rfl⟩
      clear hpc
      by_cases hlt : i4 < 3 + n
      · have j1 : (i4 : Int) < ((3 + n : Nat) : Int) := by omega
        have hre := ereap HC6.out.clo.sys (by have := reapS_count 4 (fl4 n) i4; have := HF.out.2.2.2.2.2.2.2.2.2.2.1; omega) (i4 : Int) 4
        go_wp2_with fail
        refine hre.mono ?_
        rintro e w8 hE
        obtain ⟨t8, G8, u, rfl, hv, hC8⟩ := HC6.out.step1 hE
        clear hv
        have HH : Hid (∃ t2 G2, FCl w0 b c r w G zy v zl t2 G2 w8 (reapS 4 (fl4 n) (i4 + 1))) := ⟨t8, G8, hC8⟩
        clear hre hE hC8 HC6
        go_wp2_with fail
        go_roundw
        case rel => exact ⟨i4 + 1, by simp, by omega, HH⟩
        case measure => simp [intOf]; omega
      · have j1 : ¬ (i4 : Int) < ((3 + n : Nat) : Int) := by omega
        obtain rfl : i4 = 3 + n := by omega
        have hat := HC6.out.at_ 5 (HG.out.1)
        have y0 := hat.y0
        have l0 := hat.l0
        have HLV : Hid (∀ k, Calls Tryd.prog 29 #[.pointer (some ⟨b, 0, none⟩)] (wr.drewN k) fun e w' => e = .returned (.int .i64 5) ∧ wr.drewN k = w') := fun k => ((HC6.out.later (below_drewN wr k)).at_ 5 HG.out.1).live
        have HC7 : Hid (∀ k, FCl w0 b c r w G zy v zl t6 G6 (wr.drewN k) (fl5 n)) := fun k => HC6.out.later (below_drewN wr k)
        clear hat HC6
        go_wp2_with fail
        go_quiet ((go_at_call 29; exact Calls.quiet_of_same ((HLV.out _).mono fun _ _ ⟨p, q⟩ => ⟨p, q.symm⟩)))
        go_wp2_with fail
        go_loopw [11] (fun iv wr => ∃ i : Nat, iv = .int .i64 (i : Int) ∧ i ≤ 3 + n ∧ Hid (∃ t2 G2, FCl w0 b c r w G zy v zl t2 G2 wr (reapS 5 (fl5 n) i))) (fun iv _ => 3 + n - (intOf iv).toNat)
        case atStart => exact ⟨0, rfl, Nat.zero_le _, ⟨t6, G6, HC7.out _⟩⟩
        case round =>
          obtain ⟨i5, rfl, hi, hR⟩ := hrel
          obtain ⟨t6, G6, hC6⟩ := hR.out
          have hlen : (reapS 5 (fl5 n) i5).cells.length = 3 + n := by rw [reapS_len]; exact HG.out.2.2.1
          have hpc := pcells_E hC6.clo.sys
          rw [hlen] at hpc
          have HC6 := Lib.hid hC6
          clear hR hC6 hlen HC7 HLV y0 l0
          go_wp2_with fail
          refine hpc.mono ?_
          rintro e w7 ⟨rfl, rfl⟩
          clear hpc
          by_cases hlt : i5 < 3 + n
          · have j1 : (i5 : Int) < ((3 + n : Nat) : Int) := by omega
            have hre := ereap HC6.out.clo.sys (by have := reapS_count 5 (fl5 n) i5; have := HG.out.2.1; omega) (i5 : Int) 5
            go_wp2_with fail
            refine hre.mono ?_
            rintro e w8 hE
            obtain ⟨t8, G8, u, rfl, hv, hC8⟩ := HC6.out.step1 hE
            clear hv
            have HH : Hid (∃ t2 G2, FCl w0 b c r w G zy v zl t2 G2 w8 (reapS 5 (fl5 n) (i5 + 1))) := ⟨t8, G8, hC8⟩
            clear hre hE hC8 HC6
            go_wp2_with fail
            go_roundw
            case rel => exact ⟨i5 + 1, by simp, by omega, HH⟩
            case measure => simp [intOf]; omega
          · have j1 : ¬ (i5 : Int) < ((3 + n : Nat) : Int) := by omega
            obtain rfl : i5 = 3 + n := by omega
            have hld := load_E HC6.out.clo.sys (by have := HG.out.2.2.2.2.1; have e : fl6 n = reapS 5 (fl5 n) (3 + n) := rfl; rw [← e]; omega) 65541
            go_wp2_with fail
            refine hld.mono ?_
            rintro e w9 hE
            obtain ⟨t9, G9, u, rfl, ⟨d, hd, hi2, hv⟩, hC9⟩ := HC6.out.step hE
            have e6 : reapS 5 (fl5 n) (3 + n) = fl6 n := rfl
            rw [e6] at hv hC9
            rw [HG.out.2.2.2.2.2] at hv
            subst hv
            have hl6 : ((heldP 65541).go (fl6 n)).2.live = 3 := (fl_x n hn (by omega))
            have HC9 := Lib.hid (hC9.later ((Below.refl w9.heap.size w9).alloc (Nat.le_refl _) d.obj))
            have hat := HC9.out.at_ 3 hl6
            have y0 := hat.y0
            have l0 := hat.l0
            have HLV : Hid (∀ k, Calls Tryd.prog 29 #[.pointer (some ⟨b, 0, none⟩)] ((w9.alloc d.obj).drewN k) fun e w' => e = .returned (.int .i64 3) ∧ (w9.alloc d.obj).drewN k = w') := fun k => ((HC9.out.later (below_drewN (w9.alloc d.obj) k)).at_ 3 hl6).live
            have HB : Hid (∀ k, ButN [b, c, r] w.heap.size w ((w9.alloc d.obj).drewN k)) := fun k => (HC9.out.later (below_drewN (w9.alloc d.obj) k)).clo.dgo.but
            unfold Ds.v
            unfold Ds.obj at y0 l0 HLV HB
            clear hat HC9 hC9 HC6 hld hE hd hi2 hl6 e6
            go_wp2_with fail
            go_quiet ((go_at_call 29; exact Calls.quiet_of_same ((HLV.out _).mono fun _ _ ⟨p, q⟩ => ⟨p, q.symm⟩)))
            go_wp2
            go_ret
            exact ⟨_, rfl, rfl, HB.out _⟩
end Go.Proofs.YteiikkkcjpfapaaDoor
