/- What tower.Search comes to, by whatever port. Conditions: at most 700000 asks; so many rounds at most as are told. -/
import Derived.Test.YtibimnibmengpaaDoorTc
namespace Go.Proofs.YtibimnibmengpaaDoor
open Go.RowKit Go.Op
set_option maxRecDepth 100000

/-- One who is at a node, on a level; none: more rounds than so many. -/
def goP (k : ByteArray) : Nat → Int → Nd → Int → Pr (Option (Int × Nd × Int))
  | 0, _, _, _ => .ret none
  | n + 1, a, nd, lv => if 0 ≤ lv then (onwardP nd lv k).bind fun x => if x.2.2 = 0 then (if x.1 = 0 then goP k n a nd (lv - 1) else goP k n x.1 x.2.1 lv) else .ret (some (0, nd0, x.2.2)) else .ret (some (a, nd, 0))
def searchP (n : Nat) (first : Int) (k : ByteArray) : Pr (Option (Int × Nd × Int)) := (loadP first).bind fun x => if x.2 = 0 then (if x.1.nx.length = 0 then .ret (some (0, nd0, 10)) else goP k n first x.1 ((x.1.nx.length : Int) - 1)) else .ret (some (0, nd0, x.2))
def RSe (G' : List (Nat × List Value)) (a : Option (Int × Nd × Int)) (v : Value) : Prop := ∃ x, ∃ p : Pl, a = some x ∧ x.2.1.d.In G' p ∧ v = .tuple #[.int .i64 x.1, x.2.1.v p, .int .i64 x.2.2]
theorem onward_count (nd : Nd) (lv : Int) (k : ByteArray) (s : Pt) (m : M) : ((onwardP nd lv k).run s m).2.2.count ≤ m.count + 2 := by
  have h1 := (next_count nd lv s m).2
  rw [onwardP, Pr.run_bind]
  generalize (nextP nd lv).run s m = u at h1
  obtain ⟨_ | a, s1, m1⟩ := u
  · simp only at h1 ⊢; omega
  simp only at h1 ⊢
  split
  · have h2 := (load_count a.1 s1 m1).2
    rw [Pr.run_bind]
    generalize (loadP a.1).run s1 m1 = u at h2
    obtain ⟨_ | x, s2, m2⟩ := u
    · simp only at h2 ⊢; omega
    · simp only [Pr.run] at h2 ⊢; omega
  · simp only [Pr.run]; omega
/-- At one of Search's loops. -/
structure SR (w0 : World) (b c r pb po : Nat) (t : Value) (G : List (Nat × List Value)) (w : World) (zr zn : Nat) (k : ByteArray) (whole : Option (Option (Int × Nd × Int)) × Pt × M) (n : Nat) (av lv : Value) (wr : World) : Prop where
  ex : ∃ (a : Int) (nd : Nd) (p : Pl) (l : Int) (t1 : Value) (G1 : List (Nat × List Value)) (m1 : M) (s1 : Pt), av = .int .i64 a ∧ lv = .int .i64 l ∧ Aft w0 b c r pb po t G w t1 G1 wr m1 s1 ∧ nd.d.In G1 p ∧ SVar wr zn (nd.row p) ∧ Loc w0 b c r pb t1 G1 wr zn ∧ SVar wr zr (nd0.row .nil) ∧ Loc w0 b c r pb t1 G1 wr zr ∧ whole = (goP k n a nd l).run s1 m1 ∧ m1.count + 2 * (n : Int) ≤ 700000 ∧ -1 ≤ l ∧ l ≤ 1000000
section
variable {w0 : World} {b c r pb po : Nat} {t t1 : Value} {G G1 : List (Nat × List Value)} {w w1 w2 : World} {m m1 : M} {s s1 : Pt}
set_option maxHeartbeats 4000000 in
theorem Search_E (h : SysE w0 b c r pb po t G w m s) (n : Nat) (hc : m.count + 2 * (n : Int) ≤ 600000) (first : Int) (k : ByteArray) (hne : ((searchP n first k).run s m).1 ≠ some none) :
    Calls Tryd.prog 17 #[.pointer (some ⟨pb, po, none⟩), .int .i64 first, .string k] w fun e w' => Ev w0 b c r pb po t G w RSe ((searchP n first k).run s m) e w' := by
  have ba := (Below.refl w.heap.size w).alloc (Nat.le_refl _) nobj
  have V1 := (Vars.nil (w := w)).new h (nd0.row .nil) 38
  have hl := Load_E (h.later ba) (by omega) first
  have hct := (load_count first s m).2
  have HB := Lib.hid ba
  have HV := Lib.hid V1
  unfold nobj at hl
  have mixed : Tryd.prog.follows .mixedOrders = true := by kernel_rfl
  clear h ba V1
  go_enter Tryd.func17, Tryd.ntmps17
  go_wp2_with fail
  go_step3
  go_wp2_with fail
  refine hl.mono ?_
  rintro e w1 hE
  rcases hE.cases with ⟨t1, G1, s1, m1, ho, rfl, ha⟩ | ⟨t1, G1, s1, m1, ⟨x, e1⟩, v1, ho, rfl, ⟨q, hq, rfl⟩, ha⟩
  · have HX : Hid (Ev w0 b c r pb po t G w RSe ((searchP n first k).run s m) (Halt pb po) w1) := Ev.die (by rw [searchP, Pr.bind_none ho]) (ha.back HB.out)
    clear hl hE ho ha
    unfold Halt
    go_wp2
    exact ⟨rfl, HX.out⟩
  rw [ho] at hct
  simp only at hct
  have hV := HV.out.aft ha
  obtain ⟨w3, hw3⟩ : ∃ W, W = w1.alloc (.cells (x.row q).toArray 38) := ⟨_, rfl⟩
  have hb3 : Below w1.heap.size w1 w3 := by rw [hw3]; exact (Below.refl _ _).alloc (Nat.le_refl _) _
  have sx : SVar w3 w1.heap.size (x.row q) := by rw [hw3]; exact snew _ _ _
  have lx : Loc w0 b c r pb t1 G1 w3 w1.heap.size := by rw [hw3]; exact ha.sys.fresh _
  have hr3 : SVar w3 w.heap.size (nd0.row .nil) := (hV (w.heap.size, nd0.row .nil) (by simp)).2.later hb3
  have hrl3 : Loc w0 b c r pb t1 G1 w3 w.heap.size := (hV (w.heap.size, nd0.row .nil) (by simp)).1.same hb3.size
  have ha3 := (ha.back HB.out).later hb3
  have hrun : (searchP n first k).run s m = (if e1 = 0 then (if x.nx.length = 0 then .ret (some (0, nd0, 10)) else goP k n first x ((x.nx.length : Int) - 1)) else .ret (some (0, nd0, e1)) : Pr (Option (Int × Nd × Int))).run s1 m1 := by rw [searchP, Pr.bind_some ho]
  have HW3 := Lib.hid hw3.symm
  have c2 := sx.cell (i := 2) rfl
  have hzz : w.heap.size ≠ w1.heap.size := by
    have := (hV (w.heap.size, nd0.row .nil) (by simp)).1.lt
    simp only at this; omega
  have hzw : w.heap.size ≤ w1.heap.size := by
    have := (hV (w.heap.size, nd0.row .nil) (by simp)).1.lt
    simp only at this; omega
  have HZ := Lib.hid (⟨hzz, hzw⟩ : _ ∧ _)
  have hqn : q.s0.n = x.nx.length := by have := Sl.In.n (show q.s0.In G1 (ints x.nx) from hq); rwa [ints_length] at this
  have hqf : x.nx.length ≤ 1000000 := by have := Sl.In.few (show q.s0.In G1 (ints x.nx) from hq); rwa [ints_length] at this
  have hno : ∀ e : Int, (searchP n first k).run s m = (some (some (0, nd0, e)), s1, m1) → Hid ((Instr.storeAt 38 (.pointer (some ⟨w.heap.size, 0, none⟩)) (.agg #[.string ⟨#[]⟩, .int .i64 0, .slice none 0 0])).run Tryd.prog w3 = .ok () (sput w3 w.heap.size (nd0.row .nil)) ∧ Ev w0 b c r pb po t G w RSe ((searchP n first k).run s m) (.returned (.tuple #[.int .i64 0, .agg #[.string ⟨#[]⟩, .int .i64 0, .slice none 0 0], .int .i64 e])) (sput w3 w.heap.size (nd0.row .nil)) ∧ (Go.loadVar 38 ⟨w.heap.size, 0, none⟩).run Tryd.prog (sput w3 w.heap.size (nd0.row .nil)) = .ok (.agg #[.string ⟨#[]⟩, .int .i64 0, .slice none 0 0]) (sput w3 w.heap.size (nd0.row .nil))) := fun e he =>
    ⟨hr3.store (row' := nd0.row .nil) rfl sh27 (nd0.row_one .nil), Ev.ret he ⟨_, .nil, rfl, Sl.In.nil, rfl⟩ (ha3.aside (But.sput _ _ _) hrl3 (Nat.le_refl _)), (hr3.put (row' := nd0.row .nil) rfl).loadVar sh27⟩
  unfold Nd.v
  simp only [Nd.row] at HW3 c2
  by_cases he1 : e1 = 0
  rotate_left
  · rw [if_neg he1] at hrun
    have HF := hno e1 hrun
    have hst0 := HF.out.1
    generalize sput w3 w.heap.size (nd0.row .nil) = W at HF hst0
    clear hl hE ho ha hV hw3 hb3 sx lx hr3 hrl3 ha3 hrun hno hq hzz hzw hqn hqf
    go_wp2_with (first | rw [HW3.out] | ((with_reducible refine store_run ?_ (.tmp 7) (.tmp 25) 38 ?_ ?_ ?_ hst0 ?_); exact rfl; exact rfl; exact rfl; exact rfl))
    try rw [Exit.noGoto_ret]
    exact bodyPost_ret (res_tct (.int .i64 0) (.int .i64 e1) Tryd.results17 rfl rfl rfl HF.out.2.2) rfl HF.out.2.1
  subst he1
  rw [if_pos rfl] at hrun
  obtain ⟨⟨qa, qn, qc⟩, q1, q2, q3⟩ := q
  simp only at hqn
  subst hqn
  by_cases hx0 : x.nx.length = 0
  · rw [if_pos hx0] at hrun
    have HF := hno 10 hrun
    have hst0 := HF.out.1
    generalize sput w3 w.heap.size (nd0.row .nil) = W at HF hst0
    simp only at HW3 c2
    rw [hx0] at HW3 c2
    simp only [hx0]
    clear hl hE ho ha hV hw3 hb3 sx lx hr3 hrl3 ha3 hrun hno hq hzz hzw hqf hx0
    go_wp2_with (first | rw [HW3.out] | ((with_reducible refine store_run ?_ (.tmp 7) (.tmp 31) 38 ?_ ?_ ?_ hst0 ?_); exact rfl; exact rfl; exact rfl; exact rfl))
    exact bodyPost_ret (res_tct (.int .i64 0) (.int .i64 10) Tryd.results17 rfl rfl rfl HF.out.2.2) rfl HF.out.2.1
  rw [if_neg hx0] at hrun
  rw [hrun] at hne
  have HR : Hid (SR w0 b c r pb po t G w w.heap.size w1.heap.size k ((searchP n first k).run s m) n (.int .i64 first) (.int .i64 ((x.nx.length : Int) - 1)) w3) :=
    ⟨first, x, _, _, t1, G1, m1, s1, rfl, rfl, ha3, hq, sx, lx, hr3, hrl3, hrun, by omega, by omega, by omega⟩
  have hne2 : Hid (((searchP n first k).run s m).1 ≠ some none) := by rw [hrun]; exact hne
  obtain ⟨whole, hwh⟩ : ∃ W, W = (searchP n first k).run s m := ⟨_, rfl⟩
  rw [← hwh] at HR hne2
  have HWh := Lib.hid hwh
  clear hwh
  clear hl hE ho ha hV hw3 hb3 sx lx hr3 hrl3 ha3 hrun hno hq hzz hzw hne hct hc
  have hx1 : ((x.nx.length : Int) == 0) = false := by rw [beq_eq_false_iff_ne]; omega
  simp only at HW3 c2
  go_wp2_with (first | rw [HW3.out] | fail)
  go_step3
  go_wp2_with fail
  clear hx1 hx0 c2
  go_loopw [9, 12] (fun av lv wr => ∃ n, Hid (SR w0 b c r pb po t G w w.heap.size w1.heap.size k whole n av lv wr)) (fun av lv wr => least fun n => Hid (SR w0 b c r pb po t G w w.heap.size w1.heap.size k whole n av lv wr))
  case atStart => exact ⟨n, HR⟩
  case round =>
    obtain ⟨HR, hmin⟩ := least_is hrel
    have HM := Lib.hid hmin
    clear hrel hmin
    obtain ⟨j, hj⟩ : ∃ j, j = least fun n => Hid (SR w0 b c r pb po t G w w.heap.size w1.heap.size k whole n u9 u12 wr) := ⟨_, rfl⟩
    rw [← hj] at HR
    have HJ := Lib.hid hj
    clear hj
    obtain ⟨a0, nd, p, l, t2, G2, m2, s2, rfl, rfl, hA, hin, hsn, hln, hsr, hlr, hw, hcn, hl1, hl2⟩ := HR.out.ex
    cases j with
    | zero => exact absurd (by rw [hw]; rfl) hne2.out
    | succ j =>
    by_cases hlv : 0 ≤ l
    rotate_left
    · have hrun : whole = (some (some (a0, nd, 0)), s2, m2) := by rw [hw, goP, if_neg hlv]; rfl
      have HSt := Lib.hid (fun W (hW : Below wr.heap.size wr W) =>
        have hr4 := hsr.later hW
        (⟨hr4.store (row' := nd.row p) rfl sh27 (nd.row_one p), Ev.ret hrun ⟨_, p, rfl, hin, rfl⟩ ((hA.later hW).aside (But.sput _ _ _) (hlr.same hW.size) (Nat.le_refl _)), (hr4.put (row' := nd.row p) rfl).loadVar sh27⟩ : (Instr.storeAt 38 (.pointer (some ⟨w.heap.size, 0, none⟩)) (.agg (nd.row p).toArray)).run Tryd.prog W = .ok () (sput W w.heap.size (nd.row p)) ∧ Ev w0 b c r pb po t G w RSe whole (.returned (.tuple #[.int .i64 a0, nd.v p, .int .i64 0])) (sput W w.heap.size (nd.row p)) ∧ (Go.loadVar 38 ⟨w.heap.size, 0, none⟩).run Tryd.prog (sput W w.heap.size (nd.row p)) = .ok (.agg (nd.row p).toArray) (sput W w.heap.size (nd.row p))))
      have HSx := Lib.hid hsn
      clear hA hin hsn hln hsr hlr hw hcn HR HJ HM hrun
      have hlt : l < 0 := by omega
      go_wp2_with fail
      refine FreeV.region_puts (S := LS wr (fun W => Ev w0 b c r pb po t G w RSe whole (.returned (.tuple #[.int .i64 a0, .agg #[.string nd.low, .int .i64 nd.head, .slice p.s0.a p.s0.n p.s0.cap], .int .i64 0])) W ∧ (Go.loadVar 38 ⟨w.heap.size, 0, none⟩).run Tryd.prog W = .ok (.agg #[.string nd.low, .int .i64 nd.head, .slice p.s0.a p.s0.n p.s0.cap]) W)) (effs := [3])
        (tab := [⟨1, fun _ => [.pointer (some ⟨w1.heap.size, 0, none⟩)], fun _ => .agg #[.string nd.low, .int .i64 nd.head, .slice p.s0.a p.s0.n p.s0.cap], .read⟩,
          ⟨3, fun _ => [.pointer (some ⟨w.heap.size, 0, none⟩), .agg #[.string nd.low, .int .i64 nd.head, .slice p.s0.a p.s0.n p.s0.cap]], fun _ => undef, .put⟩])
        (vs := [([], fun _ => .int .i64 a0), ([], fun _ => .agg #[.string nd.low, .int .i64 nd.head, .slice p.s0.a p.s0.n p.s0.cap]), ([], fun _ => .int .i64 a0), ([], fun _ => undef), ([], fun _ => .int .i64 0)])
        (by kernel_rfl) ⟨by kernel_rfl, ⟨FreeV.d_load _ rfl rfl (fun β bs W hS hd => load_mid (sub := nd.row p) (HSx.out.later (hS.one ((hd 0 3 rfl).2 (.inl (by kernel_rfl))))).at_ sh27),
          FreeV.d_store _ rfl rfl 0 rfl (fun β bs W hS hd => ⟨_, (HSt.out W (hS.one ((hd 0 3 rfl).2 (.inr rfl)))).1, fun e => (by rw [set_at ((hd 0 3 rfl).2 (.inr rfl))] at e; cases e), fun _ => (HSt.out W (hS.one ((hd 0 3 rfl).2 (.inr rfl)))).2⟩),
          trivial⟩,
          fun β => by kernel_rfl, fun β => by kernel_rfl, by kernel_rfl, fun β => by kernel_rfl, by kernel_rfl⟩ ls_start (fun β => Free.from_ 57 [.int .i64 a0, .agg #[.string nd.low, .int .i64 nd.head, .slice p.s0.a p.s0.n p.s0.cap]] ++ [(6, .int .i64 a0), (8, .int .i64 0)]) (fun β => by kernel_rfl) ?_
      intro β w4 h4
      obtain ⟨HX, HY⟩ := h4.two rfl
      have HE := Lib.hid HX
      have HF := Lib.hid HY
      clear h4 HX HY HSt HSx
      rw [FreeX.puts_append, Free.puts_from _ _ _ (Nat.le_of_ble_eq_true rfl)]
      simp only [List.take_succ_cons, List.take_zero, List.drop_succ_cons, List.drop_zero, List.cons_append, List.nil_append, List.length_cons, List.length_nil, Nat.reduceAdd]
      unfold Free.puts
      simp only [List.foldl_cons, List.foldl_nil]
      go_wp2_with fail
      try rw [Exit.noGoto_ret]
      exact bodyPost_ret (res_tct (.int .i64 a0) (.int .i64 0) Tryd.results17 rfl rfl rfl HF.out) rfl (by rw [← HWh.out]; exact HE.out)
    have HI : Hid (SR w0 b c r pb po t G w w.heap.size w1.heap.size k whole (j + 1) (.int .i64 a0) (.int .i64 l) wr) := HR.out
    clear hA hin hsn hln hsr hlr hw hcn HR
    go_wp2_with fail
    obtain ⟨wo, hwo⟩ : ∃ wo, wo = wr := ⟨_, rfl⟩
    subst hwo
    go_loopw [9] (fun av wr => ∃ n, n ≤ j + 1 ∧ Hid (SR w0 b c r pb po t G w w.heap.size w1.heap.size k whole n av (.int .i64 l) wr)) (fun av wr => least fun n => n ≤ j + 1 ∧ Hid (SR w0 b c r pb po t G w w.heap.size w1.heap.size k whole n av (.int .i64 l) wr))
    case atStart => exact ⟨j + 1, Nat.le_refl _, HI⟩
    case round =>
      obtain ⟨⟨hle, HR⟩, hmin⟩ := least_is hrel
      have HM2 := Lib.hid hmin
      clear hrel hmin
      obtain ⟨i, hi⟩ : ∃ i, i = least fun n => n ≤ j + 1 ∧ Hid (SR w0 b c r pb po t G w w.heap.size w1.heap.size k whole n u9 (.int .i64 l) wr) := ⟨_, rfl⟩
      rw [← hi] at HR hle
      have HI2 := Lib.hid hi
      clear hi
      obtain ⟨a, nd, p, l', t2, G2, m2, s2, rfl, el, hA, hin, hsn, hln, hsr, hlr, hw, hcn, -, -⟩ := HR.out.ex
      cases el
      cases i with
      | zero => exact absurd (by rw [hw]; rfl) hne2.out
      | succ i =>
      have hl := onward_E hA.sys (by omega) nd p hin l k
      have hct := onward_count nd l k s2 m2
      have hld := hsn.load sh27
      have HA := Lib.hid hA
      have HV := Lib.hid (⟨hsn, hln, hsr, hlr⟩ : _ ∧ _ ∧ _ ∧ _)
      have HW := Lib.hid hw
      have HC := Lib.hid hcn
      unfold Nd.v at hl
      simp only [Nd.row] at hld
      clear hA hsn hln hsr hlr hw hcn HR HI
      go_wp2_with (first | ((with_reducible refine load_run ?_ (.tmp 10) 38 ?_ ?_ hld ?_); exact rfl; exact rfl; exact rfl) | fail)
      refine hl.mono ?_
      rintro e w3 hE
      rcases hE.cases with ⟨t3, G3, s3, m3, ho, rfl, ha⟩ | ⟨t3, G3, s3, m3, ⟨h3, x3, e3⟩, v3, ho, rfl, ⟨q, hq, rfl⟩, ha⟩
      · have HX : Hid (Ev w0 b c r pb po t G w RSe ((searchP n first k).run s m) (Halt pb po) w3) := Ev.die (by rw [← HWh.out, HW.out, goP, if_pos hlv, Pr.bind_none ho]) (HA.out.trans ha)
        clear hl hE ho ha hld
        unfold Halt
        go_wp2
        exact ⟨rfl, HX.out⟩
      rw [ho] at hct
      simp only at hct
      have hrun : whole = (if e3 = 0 then (if h3 = 0 then goP k i a nd (l - 1) else goP k i h3 x3 l) else .ret (some (0, nd0, e3)) : Pr (Option (Int × Nd × Int))).run s3 m3 := by rw [HW.out, goP, if_pos hlv, Pr.bind_some ho]
      obtain ⟨hsn, hln, hsr, hlr⟩ := HV.out
      obtain ⟨sn3, ln3⟩ := ha.svar hln hsn
      obtain ⟨sr3, lr3⟩ := ha.svar hlr hsr
      obtain ⟨w4, hw4⟩ : ∃ W, W = w3.alloc (.cells (x3.row q).toArray 38) := ⟨_, rfl⟩
      have hb4 : Below w3.heap.size w3 w4 := by rw [hw4]; exact (Below.refl _ _).alloc (Nat.le_refl _) _
      have sx : SVar w4 w3.heap.size (x3.row q) := by rw [hw4]; exact snew _ _ _
      have sn4 := sn3.later hb4
      have sr4 := sr3.later hb4
      have ln4 := ln3.same hb4.size
      have lr4 := lr3.same hb4.size
      have ha4 := (HA.out.trans ha).later hb4
      have HW4 := Lib.hid hw4.symm
      have hcn : m3.count + 2 * (i : Int) ≤ 700000 := by have := HC.out; push_cast at this; omega
      unfold Nd.v
      simp only [Nd.row] at HW4
      by_cases he3 : e3 = 0
      rotate_left
      · rw [if_neg he3] at hrun
        have HF : Hid (Ev w0 b c r pb po t G w RSe ((searchP n first k).run s m) (.returned (.tuple #[.int .i64 0, .agg #[.string ⟨#[]⟩, .int .i64 0, .slice none 0 0], .int .i64 e3])) (sput w4 w.heap.size (nd0.row .nil)) ∧ (Go.loadVar 38 ⟨w.heap.size, 0, none⟩).run Tryd.prog (sput w4 w.heap.size (nd0.row .nil)) = .ok (.agg #[.string ⟨#[]⟩, .int .i64 0, .slice none 0 0]) (sput w4 w.heap.size (nd0.row .nil))) :=
          ⟨Ev.ret (a := some (0, nd0, e3)) (by rw [← HWh.out, hrun]; rfl) ⟨_, .nil, rfl, Sl.In.nil, rfl⟩ (ha4.aside (But.sput _ _ _) lr4 (Nat.le_refl _)), (sr4.put (row' := nd0.row .nil) rfl).loadVar sh27⟩
        have hst0 := sr4.store (row' := nd0.row .nil) rfl sh27 (nd0.row_one .nil)
        generalize sput w4 w.heap.size (nd0.row .nil) = W at HF hst0
        simp only [Nd.row, nd0, Pl.nil, Sl.nil] at hst0
        clear hl hE ho ha hld hsn hln hsr hlr sn3 ln3 sr3 lr3 hw4 hb4 sx sn4 sr4 ln4 lr4 ha4 hrun hcn hct hq
        go_wp2_with (first | rw [HW4.out] | ((with_reducible refine store_run ?_ (.tmp 7) (.tmp 51) 38 ?_ ?_ ?_ hst0 ?_); exact rfl; exact rfl; exact rfl; exact rfl))
        try rw [Exit.noGoto_ret]
        exact bodyPost_ret (res_tct (.int .i64 0) (.int .i64 e3) Tryd.results17 rfl rfl rfl HF.out.2) rfl HF.out.1
      subst he3
      rw [if_pos rfl] at hrun
      by_cases hh3 : h3 = 0
      · subst hh3
        rw [if_pos rfl] at hrun
        have HN : Hid (SR w0 b c r pb po t G w w.heap.size w1.heap.size k whole i (.int .i64 a) (.int .i64 (l - 1)) w4) :=
          ⟨a, nd, p, l - 1, t3, G3, m3, s3, rfl, rfl, ha4, hin.more fun x hx => ha.gro.1 x hx, sn4, ln4, sr4, lr4, hrun, hcn, by omega, by omega⟩
        clear hl hE ho ha hld hsn hln hsr hlr sn3 ln3 sr3 lr3 hw4 hb4 sx sn4 sr4 ln4 lr4 ha4 hrun hcn hct hq
        have HLt : Hid ((least fun n => Hid (SR w0 b c r pb po t G w w.heap.size w1.heap.size k whole n (.int .i64 a) (.int .i64 (l - 1)) w4)) < (least fun n => Hid (SR w0 b c r pb po t G w w.heap.size w1.heap.size k whole n (.int .i64 a0) (.int .i64 l) wo))) := by
          have h1 := (least_is (P := fun n => Hid (SR w0 b c r pb po t G w w.heap.size w1.heap.size k whole n (.int .i64 a) (.int .i64 (l - 1)) w4)) ⟨i, HN⟩).2 i HN
          have h2 := HJ.out
          show _ < _
          omega
        clear HJ HM HM2 HI2 hin HA HV HW HC HZ
        go_wp2_with (first | rw [HW4.out] | fail)
        go_roundw
        case rel => exact ⟨i, HN⟩
        case measure => exact HLt.out
      · rw [if_neg hh3] at hrun
        have HSt := Lib.hid (fun W (hW : Below w4.heap.size w4 W) =>
          have sn5 := sn4.later hW
          (⟨sn5.store (row' := x3.row q) rfl sh27 (x3.row_one q), ⟨h3, x3, q, l, t3, G3, m3, s3, rfl, rfl, (ha4.later hW).aside (But.sput _ _ _) (ln4.same hW.size) HZ.out.2, hq, sn5.put rfl, (ln4.same hW.size).same (Nat.le_of_eq (sput_size _ _ _).symm), (sr4.later hW).same (Nat.le_of_eq (sput_size _ _ _).symm) ((But.sput _ _ _).block _ (sr4.later hW).lt HZ.out.1), (lr4.same hW.size).same (Nat.le_of_eq (sput_size _ _ _).symm), hrun, hcn, by omega, by omega⟩⟩ : (Instr.storeAt 38 (.pointer (some ⟨w1.heap.size, 0, none⟩)) (.agg (x3.row q).toArray)).run Tryd.prog W = .ok () (sput W w1.heap.size (x3.row q)) ∧ SR w0 b c r pb po t G w w.heap.size w1.heap.size k whole i (.int .i64 h3) (.int .i64 l) (sput W w1.heap.size (x3.row q))))
        have HSx := Lib.hid sx
        clear hl hE ho ha hld hsn hln hsr hlr sn3 ln3 sr3 lr3 hw4 hb4 sx sn4 sr4 ln4 lr4 ha4 hrun hcn hct hq hin
        clear HJ HM HM2 HA HV HW HC HZ
        go_wp2_with (first | rw [HW4.out] | fail)
        refine FreeV.region_puts (S := LS w4 (fun W => SR w0 b c r pb po t G w w.heap.size w1.heap.size k whole i (.int .i64 h3) (.int .i64 l) W)) (effs := [3])
          (tab := [⟨1, fun _ => [.pointer (some ⟨w3.heap.size, 0, none⟩)], fun _ => .agg #[.string x3.low, .int .i64 x3.head, .slice q.s0.a q.s0.n q.s0.cap], .read⟩,
            ⟨3, fun _ => [.pointer (some ⟨w1.heap.size, 0, none⟩), .agg #[.string x3.low, .int .i64 x3.head, .slice q.s0.a q.s0.n q.s0.cap]], fun _ => undef, .put⟩])
          (vs := [([], fun _ => .int .i64 h3), ([], fun _ => .agg #[.string x3.low, .int .i64 x3.head, .slice q.s0.a q.s0.n q.s0.cap]), ([], fun _ => .int .i64 h3), ([], fun _ => undef)])
          (by kernel_rfl) ⟨by kernel_rfl, ⟨FreeV.d_load _ rfl rfl (fun β bs W hS hd => load_mid (sub := x3.row q) (HSx.out.later (hS.one ((hd 0 3 rfl).2 (.inl (by kernel_rfl))))).at_ sh27),
            FreeV.d_store _ rfl rfl 0 rfl (fun β bs W hS hd => ⟨_, (HSt.out W (hS.one ((hd 0 3 rfl).2 (.inr rfl)))).1, fun e => (by rw [set_at ((hd 0 3 rfl).2 (.inr rfl))] at e; cases e), fun _ => (HSt.out W (hS.one ((hd 0 3 rfl).2 (.inr rfl)))).2⟩),
            trivial⟩,
            fun β => by kernel_rfl, fun β => by kernel_rfl, by kernel_rfl, fun β => by kernel_rfl, by kernel_rfl⟩ ls_start (fun β => Free.from_ 55 [.int .i64 h3, .agg #[.string x3.low, .int .i64 x3.head, .slice q.s0.a q.s0.n q.s0.cap]] ++ [(9, .int .i64 h3)]) (fun β => by kernel_rfl) ?_
        intro β w5 h5
        rw [FreeX.puts_append, Free.puts_from _ _ _ (Nat.le_of_ble_eq_true rfl)]
        simp only [List.take_succ_cons, List.take_zero, List.drop_succ_cons, List.drop_zero, List.cons_append, List.nil_append, List.length_cons, List.length_nil, Nat.reduceAdd]
        unfold Free.puts
        simp only [List.foldl_cons, List.foldl_nil]
        simp only [Act.put, List.setIfInBounds_toArray, List.set_cons_succ, List.set_cons_zero]
        have HN : Hid (SR w0 b c r pb po t G w w.heap.size w1.heap.size k whole i (.int .i64 h3) (.int .i64 l) w5) := h5.two rfl
        have HLt : Hid ((least fun n => n ≤ j + 1 ∧ Hid (SR w0 b c r pb po t G w w.heap.size w1.heap.size k whole n (.int .i64 h3) (.int .i64 l) w5)) < (least fun n => n ≤ j + 1 ∧ Hid (SR w0 b c r pb po t G w w.heap.size w1.heap.size k whole n (.int .i64 a) (.int .i64 l) wr))) := by
          have hi : i ≤ j + 1 := by omega
          have h1 := (least_is (P := fun n => n ≤ j + 1 ∧ Hid (SR w0 b c r pb po t G w w.heap.size w1.heap.size k whole n (.int .i64 h3) (.int .i64 l) w5)) ⟨i, hi, HN⟩).2 i ⟨hi, HN⟩
          have h2 := HI2.out
          show _ < _
          omega
        clear h5 HSt HSx HI2
        go_wp2_with fail
        go_roundw
        case rel => exact ⟨i, by omega, HN⟩
        case measure => exact HLt.out
end
end Go.Proofs.YtibimnibmengpaaDoor
