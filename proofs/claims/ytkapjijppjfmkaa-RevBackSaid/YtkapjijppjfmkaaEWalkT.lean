/- What the law's made makes, rev.Tomb. Conditions: at most 500 entries, texts of at most 1000000 bytes. -/
import Derived.Test.YtkapjijppjfmkaaEWalkS
namespace Go.Proofs.Ytkapjijppjfmkaa
open Go.RowKit Go.Op
set_option maxRecDepth 100000

theorem size41 : (Try.prog.info? 41).map (·.size) = some 7 := by kernel_rfl
def Fm.row (R : Fm) (a : Option Addr) (c : Nat) : List Value := [.int .i64 R.ver, .int .i64 R.rate, .string R.sp.lo, .string R.sp.hi, .bool R.sp.all, .bool R.dead, .slice a R.l.length c]
def fmZero : List Value := [.int .i64 0, .int .i64 0, .string ⟨#[]⟩, .string ⟨#[]⟩, .bool false, .bool false, .slice none 0 0]
theorem Fm.row_one (R : Fm) (a : Option Addr) (c : Nat) : ∀ v ∈ R.row a c, v.oneCell' = true := by
  intro v hv
  simp only [Fm.row, List.mem_cons, List.not_mem_nil, or_false] at hv
  rcases hv with rfl | rfl | rfl | rfl | rfl | rfl | rfl <;> rfl
theorem fm_load {b : Nat} {row : List Value} {w : World} (h : Free.Holds b row w) (hl : row.length = 7) : (Instr.loadAt 41 (.pointer (some ⟨b, 0, none⟩))).run Try.prog w = .ok (.agg row.toArray) w :=
  run_loadAt_mid w b 0 41 row _ (holds_range h) Try.underlying41 rfl (by rw [hl]; exact size41)
theorem fm_store {b : Nat} {zs row : List Value} {w : World} (h : Free.Holds b zs w) (hz : zs.length = 7) (hl : row.length = 7) (h1 : ∀ v ∈ row, v.oneCell' = true) :
    (Instr.storeAt 41 (.pointer (some ⟨b, 0, none⟩)) (.agg row.toArray)).run Try.prog w = .ok () (w.setCells b 0 row) ∧ Free.Holds b row (w.setCells b 0 row) :=
  ⟨run_storeAt_mid w b 0 41 row.toArray (by have := holds_there h; rw [hz] at this; simpa [hl] using this) (by rw [List.size_toArray, hl]; exact size41) (all_oneCell_toArray h1), h.put (by omega)⟩
theorem heap_setCells_other (b q : Nat) (hq : q ≠ b) : ∀ (vs : List Value) (o : Nat) (w : World), (w.setCells b o vs).heap[q]? = w.heap[q]? := by
  intro vs
  induction vs with
  | nil => intro o w; rfl
  | cons v vs ih => intro o w; rw [World.setCells, ih]; exact heap_setCell_other w ⟨b, o, none⟩ q v hq
/-- A result variable that is a revision of the reference: stored, and read at the end. -/
theorem fm_done {b : Nat} {zs : List Value} {w : World} (R : Fm) (a : Option Addr) (c : Nat) (h : Free.Holds b zs w) (hz : zs.length = 7) :
    ∃ W, (Instr.storeAt 41 (.pointer (some ⟨b, 0, none⟩)) (R.v a c)).run Try.prog w = .ok () W ∧ W = w.setCells b 0 (R.row a c) ∧ (loadVar 41 ⟨b, 0, none⟩).run Try.prog W = .ok (R.v a c) W ∧ Free.Holds b (R.row a c) W := by
  obtain ⟨h1, h2⟩ := fm_store (row := R.row a c) h hz rfl (R.row_one a c)
  exact ⟨_, h1, rfl, run_loadVar_mid _ b 0 41 (R.row a c) _ (holds_range h2) Try.underlying41 rfl size41, h2⟩

/-- What made makes. -/
def madeF (ver rate : Int) (sp : Sp) (l : List En) : Fm := if rightB sp l then ⟨ver, rate, sp, false, l⟩ else ⟨0, 0, zero, false, []⟩
def madeV (ver rate : Int) (sp : Sp) (l : List En) (a : Option Addr) (c : Nat) : Value := if rightB sp l then (Fm.mk ver rate sp false l).v a c else (Fm.mk 0 0 zero false []).v none 0
set_option maxHeartbeats 4000000 in
theorem made_any (ver rate : Int) (sp : Sp) (a : Option Addr) (l : List En) (c : Nat) (w : World) (hl : l.length ≤ 1000000) (hE : Ents w a l) (hk : ∀ e ∈ l, e.key.size ≤ 1000000) (hs1 : sp.lo.size ≤ 1000000) (hs2 : sp.hi.size ≤ 1000000) :
    Calls Try.prog 13 #[.int .i64 ver, .int .i64 rate, sp.v, .slice a l.length c] w fun e w' => e = .returned (.tuple #[madeV ver rate sp l a c, .bool (rightB sp l)]) ∧ Below w.heap.size w w' := by
  have hr := fun w' (hb : Below w.heap.size w w') => may_any sp a l c w' hl (hE.below hb) hk hs1 hs2
  have HR := Lib.hid hr
  clear hr hE hk hs1 hs2
  unfold madeV
  obtain ⟨lo, hi, all⟩ := sp
  have B := ((Below.refl w.heap.size w).alloc (Nat.le_refl _) (.cells #[.string lo, .string hi, .bool all] 23)).alloc (by simp) (.cells fmZero.toArray 41)
  have hr0 := HR.out _ B
  have HB := Lib.hid B
  clear B HR
  simp only [Sp.v, Fm.v, zero, List.length_nil] at hr0 ⊢
  unfold fmZero at hr0
  cases hh : rightB ⟨lo, hi, all⟩ l with
  | false =>
    rw [hh] at hr0
    rw [if_neg (by decide)]
    go_enter Try.func13, Try.ntmps13
    go_wp2_with fail
    refine hr0.mono ?_
    rintro e w1 ⟨rfl, b1⟩
    have s1 := b1.size
    simp at s1
    have hz : Free.Holds (w.heap.size + 1) fmZero w1 := by
      refine Free.Holds.below (holds_cells (t := 41) ?_) b1 (by simp)
      have := heap_alloc_new (w.alloc (.cells #[.string lo, .string hi, .bool all] 23)) (.cells fmZero.toArray 41)
      rwa [show (w.alloc (.cells #[.string lo, .string hi, .bool all] 23)).heap.size = w.heap.size + 1 by simp] at this
    obtain ⟨W, hst, hW, hld, _⟩ := fm_done ⟨0, 0, zero, false, []⟩ none 0 hz rfl
    have HB1 : Hid (Below w.heap.size w W) := Lib.hid (by
      rw [hW]
      exact Free.below_setCells (by omega) _ _ _ (HB.out.trans (b1.mono (by simp <;> omega))))
    simp only [Fm.v, zero, List.length_nil] at hst hld
    clear hW hz b1 hr0
    go_wp2_with (refine wpList_run_store rfl 41 (.tmp 8) (.tmp 14) rfl _ _ rfl rfl W hst ?_)
    exact bodyPost_ret (results_cell2 Try.results13 rfl rfl hld) rfl ⟨rfl, HB1.out⟩
  | true =>
    rw [hh] at hr0
    rw [if_pos rfl]
    go_enter Try.func13, Try.ntmps13
    go_wp2_with fail
    refine hr0.mono ?_
    rintro e w1 ⟨rfl, b1⟩
    have s1 := b1.size
    simp at s1
    have c0 : w1.cell? ⟨w.heap.size, 0, none⟩ = some (.string lo) := keep b1 (by simp [go_sem]) (by simp <;> omega)
    have c1 : w1.cell? ⟨w.heap.size, 1, none⟩ = some (.string hi) := keep b1 (by simp [go_sem]) (by simp <;> omega)
    have c2 : w1.cell? ⟨w.heap.size, 2, none⟩ = some (.bool all) := keep b1 (by simp [go_sem]) (by simp <;> omega)
    have hz : Free.Holds (w.heap.size + 1) fmZero w1 := by
      refine Free.Holds.below (holds_cells (t := 41) ?_) b1 (by simp)
      have := heap_alloc_new (w.alloc (.cells #[.string lo, .string hi, .bool all] 23)) (.cells fmZero.toArray 41)
      rwa [show (w.alloc (.cells #[.string lo, .string hi, .bool all] 23)).heap.size = w.heap.size + 1 by simp] at this
    obtain ⟨W, hst, hW, hld, _⟩ := fm_done ⟨ver, rate, ⟨lo, hi, all⟩, false, l⟩ a c hz rfl
    have HB1 : Hid (Below w.heap.size w W) := Lib.hid (by
      rw [hW]
      exact Free.below_setCells (by omega) _ _ _ (HB.out.trans (b1.mono (by simp <;> omega))))
    simp only [Fm.v] at hst hld
    clear hW hz b1 hr0
    go_wp2_with (refine wpList_run_store rfl 41 (.tmp 8) (.tmp 19) rfl _ _ rfl rfl W hst ?_)
    exact bodyPost_ret (results_cell2 Try.results13 rfl rfl hld) rfl ⟨rfl, HB1.out⟩

def tombR (ver : Int) : Rm := ⟨ver, 0, zero, true, [], []⟩
set_option maxHeartbeats 2000000 in
theorem tomb_any (ver : Int) (w : World) : Calls Try.prog 24 #[.int .i64 ver] w fun e w' => e = .returned ((tombR ver).v Rs.none) ∧ Below w.heap.size w w' := by
  have hz : Free.Holds w.heap.size Rm.none.zeroRow (w.alloc (.cells Rm.none.zeroRow.toArray 33)) := holds_cells (heap_alloc_new w _)
  obtain ⟨W, hst, hW, hld, _⟩ := rev_done (tombR ver) Rs.none hz rfl
  have HB1 : Hid (Below w.heap.size w W) := Lib.hid (by
    rw [hW]
    exact Free.below_setCells (Nat.le_refl _) _ _ _ ((Below.refl _ _).alloc (Nat.le_refl _) _))
  simp only [Rm.v, tombR, Rs.none, zero, List.length_nil, Rm.zeroRow] at hst hld ⊢
  clear hW hz
  go_enter Try.func24, Try.ntmps24
  go_wp2_with (refine wpList_run_store rfl 33 (.tmp 2) (.tmp 4) rfl _ _ rfl rfl W hst ?_)
  exact bodyPost_ret (results_cell Try.results24 rfl hld) rfl ⟨rfl, HB1.out⟩
end Go.Proofs.Ytkapjijppjfmkaa
