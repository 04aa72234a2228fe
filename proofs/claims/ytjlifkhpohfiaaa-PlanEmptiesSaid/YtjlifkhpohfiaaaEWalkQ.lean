/- What the law's Few and short answer, what its made makes, what rev.New answers. Conditions: at most 500 entries for New. -/
import Derived.Test.YtjlifkhpohfiaaaEWalkH
import Derived.Test.YtjlifkhpohfiaaaEWalkF
namespace Go.Proofs.Ytjlifkhpohfiaaa
open Go.RowKit Go.Op
set_option maxRecDepth 100000

theorem new_zero (w : World) : Free.Holds w.heap.size Rm.none.zeroRow (w.alloc (.cells Rm.none.zeroRow.toArray 50)) := holds_cells (heap_alloc_new w _)

set_option maxHeartbeats 4000000 in
theorem new_any (ver rate : Int) (sp : Sp) (a : Option Addr) (l : List En) (c : Nat) (w : World) (hl : l.length ≤ 500) (hs : ∀ e ∈ l, e.key.size ≤ 1000000) (hE : Ents w a l) :
    Calls Try.prog 30 #[.int .i64 ver, .int .i64 rate, sp.v, .slice a l.length c] w fun e w' => ∃ R s er, e = .returned (.tuple #[R.v s, .int .i64 er]) ∧ RevAt w' R s ∧ s.from_ w.heap.size ∧ Below w.heap.size w w' ∧
      ((rightB sp l = true ∧ R = ⟨ver, rate, sp, false, l, build (l.map En.key)⟩ ∧ er = 0) ∨ (rightB sp l = false ∧ R = Rm.none ∧ er = 1)) := by
  have hr := fun w' (hb : Below w.heap.size w w') => right_any sp a l c w' (by omega) (hE.below hb)
  have hy := fun w' (hb : Below w.heap.size w w') => lay_any ver rate sp a l c w' hl hs (hE.below hb)
  have HR := Lib.hid hr
  have HY := Lib.hid hy
  clear hr hy hE hs
  obtain ⟨lo, hi, all⟩ := sp
  have B := ((Below.refl w.heap.size w).alloc (Nat.le_refl _) (.cells #[.string lo, .string hi, .bool all] 46)).alloc (by simp) (.cells Rm.none.zeroRow.toArray 50)
  have hr0 := HR.out _ B
  have HB := Lib.hid B
  clear B HR
  simp only [Sp.v] at hr0 ⊢
  unfold Rm.zeroRow at hr0
  cases hh : rightB ⟨lo, hi, all⟩ l with
  | false =>
    rw [hh] at hr0
    go_enter Try.func30, Try.ntmps30
    go_wp2_with fail
    refine hr0.mono ?_
    rintro e w1 ⟨rfl, b1⟩
    have s1 := b1.size
    simp at s1
    have hz : Free.Holds (w.heap.size + 1) Rm.none.zeroRow w1 := by
      refine Free.Holds.below (holds_cells (t := 50) ?_) b1 (by simp)
      have := heap_alloc_new (w.alloc (.cells #[.string lo, .string hi, .bool all] 46)) (.cells Rm.none.zeroRow.toArray 50)
      rwa [show (w.alloc (.cells #[.string lo, .string hi, .bool all] 46)).heap.size = w.heap.size + 1 by simp] at this
    obtain ⟨W, hst, hW, hld, hqq, hsz⟩ := rev_done Rm.none Rs.none hz rfl
    have HB1 : Hid (Below w.heap.size w W) := Lib.hid (by
      rw [hW]
      exact Free.below_setCells (by omega) _ _ _ (HB.out.trans (b1.mono (by simp <;> omega))))
    simp only [Rm.v, Rm.none, Rs.none, zero, List.length_nil] at hst hld
    clear hW hqq hsz hz b1 hr0
    go_wp2_with (refine wpList_run_store rfl 50 (.tmp 8) (.tmp 14) rfl _ _ rfl rfl W hst ?_)
    exact bodyPost_ret (results_cell2 Try.results30 rfl rfl hld) rfl ⟨Rm.none, Rs.none, 1, rfl, rev_none _, from_none _, HB1.out, .inr ⟨trivial, rfl, rfl⟩⟩
  | true =>
    rw [hh] at hr0
    obtain ⟨T, hT⟩ : ∃ T, T = build (l.map En.key) := ⟨_, rfl⟩
    rw [← hT] at HY ⊢
    clear hT
    go_enter Try.func30, Try.ntmps30
    go_wp2_with fail
    refine hr0.mono ?_
    rintro e w1 ⟨rfl, b1⟩
    have s1 := b1.size
    simp at s1
    have c0 : w1.cell? ⟨w.heap.size, 0, none⟩ = some (.string lo) := keep b1 (by simp [go_sem]) (by simp <;> omega)
    have c1 : w1.cell? ⟨w.heap.size, 1, none⟩ = some (.string hi) := keep b1 (by simp [go_sem]) (by simp <;> omega)
    have c2 : w1.cell? ⟨w.heap.size, 2, none⟩ = some (.bool all) := keep b1 (by simp [go_sem]) (by simp <;> omega)
    have HZ : Hid (Free.Holds (w.heap.size + 1) Rm.none.zeroRow w1) := Lib.hid (by
      refine Free.Holds.below (holds_cells (t := 50) ?_) b1 (by simp)
      have := heap_alloc_new (w.alloc (.cells #[.string lo, .string hi, .bool all] 46)) (.cells Rm.none.zeroRow.toArray 50)
      rwa [show (w.alloc (.cells #[.string lo, .string hi, .bool all] 46)).heap.size = w.heap.size + 1 by simp] at this)
    have B1 := HB.out.trans (b1.mono (by simp <;> omega))
    have hy0 := HY.out _ B1
    have HB1 := Lib.hid B1
    simp only [Sp.v] at hy0
    clear B1 b1 hr0 HY
    go_wp2_with fail
    refine hy0.mono ?_
    rintro e w2 ⟨rs, rfl, hrev, hfr, b2⟩
    obtain ⟨W, hst, hW, hld, hqq, hsz⟩ := rev_done ⟨ver, rate, ⟨lo, hi, all⟩, false, l, T⟩ rs (HZ.out.below b2 (by omega)) rfl
    have HF : Hid (RevAt W ⟨ver, rate, ⟨lo, hi, all⟩, false, l, T⟩ rs ∧ Below w.heap.size w W) := Lib.hid ⟨by rw [hW]; exact hrev.put hfr (by omega) _, by
      rw [hW]
      exact Free.below_setCells (by omega) _ _ _ (HB1.out.trans (b2.mono (by omega)))⟩
    simp only [Rm.v] at hst hld ⊢
    clear hW hqq hsz b2 hy0 hrev c0 c1 c2 HZ
    go_wp2_with (refine wpList_run_store rfl 50 (.tmp 8) (.tmp 19) rfl _ _ rfl rfl W hst ?_)
    exact bodyPost_ret (results_cell2 Try.results30 rfl rfl hld) rfl ⟨⟨ver, rate, ⟨lo, hi, all⟩, false, l, T⟩, rs, 0, rfl, HF.out.1, Rs.from_mono (s := rs) hfr (by omega), HF.out.2, .inl ⟨trivial, rfl, rfl⟩⟩
end Go.Proofs.Ytjlifkhpohfiaaa
