/- rev.Apply of a dead revision; revisions that are laid into a new variable; the law's awake. No condition. -/
import Derived.Test.YtkapjijppjfmkaaEWalkV
namespace Go.Proofs.Ytkapjijppjfmkaa
open Go.RowKit Go.Op
set_option maxRecDepth 100000

set_option maxHeartbeats 2000000 in
theorem apply_dead (ver : Int) (x y : Value) (w : World) : Calls Try.prog 22 #[(tombR ver).v Rs.none, x, y] w fun e w' => e = .returned (.tuple #[Rm.none.v Rs.none, .int .i64 1]) ∧ Below w.heap.size w w' := by
  have hz : Free.Holds (w.heap.size + 1) Rm.none.zeroRow ((w.alloc (.cells ((tombR ver).row Rs.none).toArray 33)).alloc (.cells Rm.none.zeroRow.toArray 33)) := holds_alloc _ _ _ _ _ (by simp) rfl
  obtain ⟨W, hst, hW, hld, _⟩ := rev_done Rm.none Rs.none hz rfl
  have HB1 : Hid (Below w.heap.size w W) := Lib.hid (by
    rw [hW]
    exact Free.below_setCells (by omega) _ _ _ (((Below.refl _ _).alloc (Nat.le_refl _) _).alloc (by simp) _))
  simp only [Rm.v, Rm.row, tombR, Rm.none, Rs.none, zero, List.length_nil, Rm.zeroRow] at hst hld ⊢
  clear hW hz
  go_enter Try.func22, Try.ntmps22
  go_wp2_with (refine wpList_run_store rfl 33 (.tmp 6) (.tmp 17) rfl _ _ rfl rfl W hst ?_)
  exact bodyPost_ret (results_cell2 Try.results22 rfl rfl hld) rfl ⟨rfl, HB1.out⟩

/-- A revision stored into a new variable. -/
theorem rev_new (R : Rm) (s : Rs) (w : World) : ∃ W, (Instr.storeAt 33 (.pointer (some ⟨w.heap.size, 0, none⟩)) (R.v s)).run Try.prog (w.alloc (.cells Rm.none.zeroRow.toArray 33)) = .ok () W ∧ Free.Holds w.heap.size (R.row s) W ∧ Below w.heap.size w W ∧ w.heap.size < W.heap.size := by
  obtain ⟨h1, h2⟩ := rev_store (row := R.row s) (holds_cells (heap_alloc_new w (.cells Rm.none.zeroRow.toArray 33))) rfl rfl (R.row_one s)
  exact ⟨_, h1, h2, Free.below_setCells (Nat.le_refl _) _ _ _ ((Below.refl _ _).alloc (Nat.le_refl _) _), by rw [Free.size_setCells]; simp⟩
theorem fm_new (R : Fm) (a : Option Addr) (c : Nat) (w : World) : ∃ W, (Instr.storeAt 41 (.pointer (some ⟨w.heap.size, 0, none⟩)) (R.v a c)).run Try.prog (w.alloc (.cells fmZero.toArray 41)) = .ok () W ∧ Free.Holds w.heap.size (R.row a c) W ∧ Below w.heap.size w W ∧ w.heap.size < W.heap.size := by
  obtain ⟨h1, h2⟩ := fm_store (row := R.row a c) (holds_cells (heap_alloc_new w (.cells fmZero.toArray 41))) rfl rfl (R.row_one a c)
  exact ⟨_, h1, h2, Free.below_setCells (Nat.le_refl _) _ _ _ ((Below.refl _ _).alloc (Nat.le_refl _) _), by rw [Free.size_setCells]; simp⟩
theorem rev_get {b : Nat} {R : Rm} {s : Rs} {w : World} (h : Free.Holds b (R.row s) w) : (Instr.loadAt 33 (.pointer (some ⟨b, 0, none⟩))).run Try.prog w = .ok (R.v s) w := rev_load h rfl
theorem fm_get {b : Nat} {R : Fm} {a : Option Addr} {c : Nat} {w : World} (h : Free.Holds b (R.row a c) w) : (Instr.loadAt 41 (.pointer (some ⟨b, 0, none⟩))).run Try.prog w = .ok (R.v a c) w := fm_load h rfl

theorem ents_lit (w : World) (l : List En) (T : TypeId) : Ents (w.alloc (.cells (enRow l).toArray T)) (some ⟨w.heap.size, 0, none⟩) l := by
  refine .inr ⟨w.heap.size, 0, rfl, by simp, fun k hk => ?_⟩
  obtain ⟨e1, e2, e3⟩ := enRow_get l k hk
  have hc : ∀ j u, (enRow l)[j]? = some u → (w.alloc (.cells (enRow l).toArray T)).cell? ⟨w.heap.size, j, none⟩ = some u := fun j u hj => by
    rw [World.cell?_alloc_new]
    simpa using hj
  rw [Nat.zero_add]
  exact ⟨hc _ _ e1, hc _ _ e2, hc _ _ e3⟩
theorem wpList_run_load_g {ops : Array Oper} {rest : List Oper} {op : Oper} {a : Act} {w : World} {Q : Exit → Act → World → Prop} (hgd : Region.wanted op (yielded ops a.tmps) = true) (ty : TypeId) (x : Operand) (ho : op.op = .load ty x)
    (p v : Value) (hx : a.eval x = p) (hr : (Instr.loadAt ty p).run Try.prog w = .ok v w) (h : wpList Try.prog ops Q rest (a.put op.dst v) w) : wpList Try.prog ops Q (op :: rest) a w := by
  unfold wpList
  rw [if_pos hgd]
  left
  unfold Oper.wp execOp
  simp only [ho, Sem.run_bind, hx, hr, Result.andThen_ok, Sem.run_pure]
  exact h
def tA : ByteArray := ⟨#[97]⟩
def tB : ByteArray := ⟨#[98]⟩
def t1 : ByteArray := ⟨#[49]⟩
def t2 : ByteArray := ⟨#[50]⟩
def aw1 : List En := [⟨tB, t2, false⟩]
def aw2 : List En := [⟨tA, t1, false⟩, ⟨tB, no, true⟩]
theorem aw_right1 : rightB whole aw1 = true := by decide +kernel
theorem aw_right2 : rightB whole aw2 = true := by decide +kernel
theorem aw_get1 : getV (changedL aw1 aw2) tA = (t1, true) := by decide +kernel
theorem aw_get2 : getV (changedL aw1 aw2) tB = (no, false) := by decide +kernel
theorem aw_live : (liveL (changedL aw1 aw2)).length = 1 := by decide +kernel
theorem aw_len : (changedL aw1 aw2).length = 2 := by decide +kernel

theorem aw_keys1 : ∀ e ∈ aw1, e.key.size ≤ 1000000 := by
  intro e he
  cases he with
  | head => decide
  | tail _ h => cases h
theorem aw_keys2 : ∀ e ∈ aw2, e.key.size ≤ 1000000 := by
  intro e he
  cases he with
  | head => decide
  | tail _ h =>
    cases h with
    | head => decide
    | tail _ h => cases h
/-- The first revision. -/
theorem aw_new (w : World) : Calls Try.prog 10 #[.int .i64 1, .int .i64 0, .agg #[.string ⟨#[]⟩, .string ⟨#[]⟩, .bool true], .slice (some ⟨w.heap.size, 0, none⟩) 1 1] (w.alloc (.cells #[.string ⟨#[98]⟩, .string ⟨#[50]⟩, .bool false] 72)) fun e w' =>
    ∃ T s, e = .returned (.tuple #[(Rm.mk 1 0 whole false aw1 T).v s, .int .i64 0]) ∧ RevAt w' ⟨1, 0, whole, false, aw1, T⟩ s ∧ Below w.heap.size w w' := by
  refine (new_any 1 0 whole (some ⟨w.heap.size, 0, none⟩) aw1 1 _ (by decide) aw_keys1 (ents_lit w aw1 72)).mono ?_
  rintro e w2 ⟨R, s, er, rfl, hR, _, b2, hc⟩
  rcases hc with ⟨_, rfl, rfl⟩ | ⟨h, _⟩
  · exact ⟨_, s, rfl, hR, ((Below.refl _ _).alloc (Nat.le_refl _) _).trans (b2.mono (by simp))⟩
  · rw [aw_right1] at h; cases h
/-- The second one. -/
theorem aw_apply (T : List Int) (s : Rs) (w : World) (hR : RevAt w ⟨1, 0, whole, false, aw1, T⟩ s) : Calls Try.prog 22 #[(Rm.mk 1 0 whole false aw1 T).v s, .int .i64 2, .slice (some ⟨w.heap.size, 0, none⟩) 2 2] (w.alloc (.cells #[.string ⟨#[97]⟩, .string ⟨#[49]⟩, .bool false, .string ⟨#[98]⟩, .string ⟨#[]⟩, .bool true] 72)) fun e w' =>
    ∃ R s', e = .returned (.tuple #[R.v s', .int .i64 0]) ∧ RevAt w' R s' ∧ Below w.heap.size w w' ∧ R.l.length ≤ 500 ∧ R.tab = build (R.l.map En.key) ∧ getV R.l tA = (t1, true) ∧ getV R.l tB = (no, false) ∧ (liveL R.l).length = 1 := by
  refine (apply_any 1 0 2 whole aw1 T s (some ⟨w.heap.size, 0, none⟩) aw2 2 _ (by decide) (by decide) aw_keys1 aw_keys2 (List.pairwise_singleton _ _) (hR.below ((Below.refl _ _).alloc (Nat.le_refl _) _)) (ents_lit w aw2 72)).mono ?_
  rintro e w3 ⟨R, s3, er, rfl, hR, hfr, b3, hc⟩
  rcases hc with ⟨_, rfl, rfl⟩ | ⟨h, _⟩
  · exact ⟨_, s3, rfl, hR, ((Below.refl _ _).alloc (Nat.le_refl _) _).trans (b3.mono (by simp)), by rw [aw_len]; decide, rfl, aw_get1, aw_get2, aw_live⟩
  · rw [aw_right2] at h; cases h

set_option maxHeartbeats 1000000 in
theorem awake_any (w : World) : Calls Try.prog 7 #[] w fun e w' => e = .returned (.bool true) ∧ Below w.heap.size w w' := by
  have hwh := fun w => whole_any w
  unfold whole no at hwh
  simp only [Sp.v] at hwh
  go_enter Try.func7, Try.ntmps7
  go_wp2_with fail
  refine (hwh w).mono ?_
  rintro e w1 ⟨rfl, b1⟩
  go_wp2_with fail
  refine (aw_new w1).mono ?_
  rintro e w2 ⟨T1, s, rfl, hR, b2⟩
  have B2 := b1.trans (b2.mono b1.size)
  have hap := fun w hR => aw_apply T1 s w hR
  generalize Rm.mk 1 0 whole false aw1 T1 = R1 at *
  obtain ⟨W, hst, hW, bW, sW⟩ := rev_new R1 s w2
  simp only [Rm.zeroRow] at hst
  have hl := rev_get hW
  have hap := hap W (hR.below bW)
  have HB := Lib.hid (B2.trans (bW.mono B2.size))
  have n2 := B2.size
  clear hR b1 b2 B2 bW hW
  go_wp2_with (first | (refine wpList_run_store rfl 33 (.tmp 1) (.tmp 14) rfl _ _ rfl rfl W hst ?_) | (refine wpList_run_load rfl 33 (.tmp 1) rfl _ _ rfl hl ?_))
  refine hap.mono ?_
  rintro e w3 ⟨R3, s3, rfl, hR, b3, hlen, htab, g1, g2, g3⟩
  have n3 := b3.size
  obtain ⟨W3, hst3, hW3, c3, sW3⟩ := rev_new R3 s3 w3
  simp only [Rm.zeroRow] at hst3
  have hl3 := rev_get hW3
  have HR3 := Lib.hid (hR.below c3)
  have HB3 := Lib.hid (HB.out.trans ((b3.trans (c3.mono n3)).mono (by omega)))
  have hg1 := fun w' (hb : Below W3.heap.size W3 w') => get_any R3 s3 tA w' hlen (HR3.out.below hb) htab (by decide)
  have hg2 := fun w' (hb : Below W3.heap.size W3 w') => get_any R3 s3 tB w' hlen (HR3.out.below hb) htab (by decide)
  have hg3 := fun w' (hb : Below W3.heap.size W3 w') => nlive_any R3 s3 w' (by omega) (HR3.out.below hb)
  have HH3 := Lib.hid hW3
  rw [g1] at hg1
  rw [g2] at hg2
  simp only [tA, t1] at hg1
  simp only [tB, no] at hg2
  rw [g3] at hg3
  have HG1 := Lib.hid hg1
  have HG2 := Lib.hid hg2
  have HG3 := Lib.hid hg3
  have hld := fun w' (hb : Below W3.heap.size W3 w') => rev_get (HH3.out.below hb (by omega))
  clear hR b3 c3 hW3 hl hst hg1 hg2 hg3 hlen htab g1 g2 g3 hap
  go_wp2_with (first | (refine wpList_run_store rfl 33 (.tmp 3) (.tmp 22) rfl _ _ rfl rfl W3 hst3 ?_) | (refine wpList_run_load rfl 33 (.tmp 3) rfl _ _ rfl hl3 ?_))
  refine (HG1.out W3 (Below.refl _ _)).mono ?_
  rintro e w4 ⟨rfl, b4⟩
  have hl4 := hld w4 b4
  go_wp2_with (refine wpList_run_load rfl 33 (.tmp 3) rfl _ _ rfl hl4 ?_)
  refine (HG2.out w4 b4).mono ?_
  rintro e w5 ⟨rfl, b5⟩
  have b5' := b4.trans (b5.mono b4.size)
  have hl5 := hld w5 b5'
  go_wp2_with (refine wpList_run_load_g (by kernel_rfl) 33 (.tmp 3) rfl _ _ rfl hl5 ?_)
  refine (HG3.out w5 b5').mono ?_
  rintro e w6 ⟨rfl, b6⟩
  have b6' := b5'.trans (b6.mono b5'.size)
  go_wp2_with fail
  go_ret
  exact ⟨rfl, HB3.out.trans (b6'.mono (by omega))⟩
end Go.Proofs.Ytkapjijppjfmkaa
