/- What the law's Few and short answer, what its made makes, what rev.New answers. Conditions: at most 500 entries for New. -/
import Derived.Test.YtkapjijppjfmkaaEWalkH
import Derived.Test.YtkapjijppjfmkaaEWalkI
import Derived.Test.YtkapjijppjfmkaaEWalkO
namespace Go.Proofs.Ytkapjijppjfmkaa
open Go.RowKit Go.Op
set_option maxRecDepth 100000

def FewE (l : List En) : Prop := l.length ≤ 70 ∧ ∀ e ∈ l, e.key.size ≤ 40 ∧ e.val.size ≤ 40
open Classical in
noncomputable def fewE (l : List En) : Int := if FewE l then 1 else 0
theorem fewE_yes {l : List En} (h : FewE l) : fewE l = 1 := if_pos h
theorem fewE_no {l : List En} (h : ¬ FewE l) : fewE l = 0 := if_neg h
theorem few_any (a : Option Addr) (l : List En) (c : Nat) (w : World) (hE : Ents w a l) :
    Calls Try.prog 8 #[.slice a l.length c] w fun e w' => e = .returned (.int .i64 (fewE l)) ∧ w = w' := by
  by_cases h0 : l.length ≤ 70
  · have HE := Lib.hid hE
    have HY := Lib.hid (fun h : ∀ e ∈ l, e.key.size ≤ 40 ∧ e.val.size ≤ 40 => fewE_yes (l := l) ⟨h0, h⟩)
    have HN := Lib.hid (fun h : ¬ FewE l => fewE_no h)
    have i0 : ¬ (70 : Int) < (l.length : Int) := by omega
    clear hE
    go_enter Try.func8, Try.ntmps8
    go_wp2
    go_loop [3] (fun iv => ∃ i : Nat, iv = .int .i64 (i : Int) ∧ i ≤ l.length ∧ Hid (∀ j (hj : j < l.length), j < i → l[j].key.size ≤ 40 ∧ l[j].val.size ≤ 40)) (fun iv => l.length - (intOf iv).toNat)
    case atStart => exact ⟨0, rfl, by omega, Lib.hid (fun j _ h => by omega)⟩
    case round =>
      obtain ⟨i, rfl, hil, H1⟩ := hrel
      by_cases h1 : i < l.length
      · have i1 : (i : Int) < (l.length : Int) := by omega
        obtain ⟨eb, eo, rfl, heb, hc⟩ := HE.out.at h1
        have HF : Hid (¬ (l[i].key.size ≤ 40 ∧ l[i].val.size ≤ 40) → fewE l = 0) := Lib.hid (fun h => HN.out (fun hf => h (hf.2 _ (List.getElem_mem h1))))
        have HG : Hid ((l[i].key.size ≤ 40 ∧ l[i].val.size ≤ 40) → ∀ j (hj : j < l.length), j < i + 1 → l[j].key.size ≤ 40 ∧ l[j].val.size ≤ 40) := Lib.hid (fun h j hj hj2 => by
          by_cases e : j = i
          · subst e; exact h
          · exact H1.out j hj (by omega))
        generalize l[i] = x at hc HF HG
        obtain ⟨k, v, gn⟩ := x
        obtain ⟨c1, c2, c3⟩ := hc
        simp only at c1 c2 c3
        by_cases g1 : k.size ≤ 40
        · have d1 : decide ((40 : Int) < (k.size : Int)) = false := decide_eq_false (by omega)
          by_cases g2 : v.size ≤ 40
          · have d2 : decide ((40 : Int) < (v.size : Int)) = false := decide_eq_false (by omega)
            have HGo := Lib.hid (HG.out ⟨g1, g2⟩)
            clear g1 g2
            go_wp2
            go_round
            case rel => exact ⟨i + 1, by go_num, by omega, HGo⟩
            case measure => simp [intOf]; omega
          · have d2 : decide ((40 : Int) < (v.size : Int)) = true := decide_eq_true (by omega)
            have HX := Lib.hid (HF.out (fun h => g2 h.2))
            clear g1 g2
            go_wp2
            go_ret
            exact ⟨ret_i64 HX.out.symm, rfl⟩
        · have d1 : decide ((40 : Int) < (k.size : Int)) = true := decide_eq_true (by omega)
          have HX := Lib.hid (HF.out (fun h => g1 h.1))
          clear g1
          go_wp2
          go_ret
          exact ⟨ret_i64 HX.out.symm, rfl⟩
      · have i1 : ¬ (i : Int) < (l.length : Int) := by omega
        have HX := Lib.hid (HY.out (fun e he => by
          obtain ⟨j, hj, rfl⟩ := List.mem_iff_getElem.1 he
          exact H1.out j hj (by omega)))
        go_wp2
        go_ret
        exact ⟨ret_i64 HX.out.symm, rfl⟩
  · have HX := Lib.hid (fewE_no (l := l) (fun h => h0 h.1))
    have i0 : (70 : Int) < (l.length : Int) := by omega
    clear hE
    go_enter Try.func8, Try.ntmps8
    go_wp2
    go_ret
    exact ⟨ret_i64 HX.out.symm, rfl⟩
def Sp.brief (s : Sp) : Bool := decide (s.lo.size ≤ 40) && decide (s.hi.size ≤ 40)
theorem brief_yes {s : Sp} (h : s.brief = true) : s.lo.size ≤ 40 ∧ s.hi.size ≤ 40 := by simpa [Sp.brief] using h
theorem brief_any (s : Sp) (w : World) : Calls Try.prog 9 #[s.v] w fun e w' => e = .returned (.bool s.brief) ∧ Below w.heap.size w w' := by
  obtain ⟨lo, hi, all⟩ := s
  simp only [Sp.v]
  have B := (Below.refl w.heap.size w).alloc (Nat.le_refl _) (.cells #[.string lo, .string hi, .bool all] 23)
  by_cases h1 : lo.size ≤ 40
  · have d1 : decide ((lo.size : Int) ≤ 40) = true := decide_eq_true (by omega)
    by_cases h2 : hi.size ≤ 40
    · have d2 : decide ((hi.size : Int) ≤ 40) = true := decide_eq_true (by omega)
      have e : (⟨lo, hi, all⟩ : Sp).brief = true := by simp [Sp.brief, h1, h2]
      rw [e]
      clear e h1 h2
      go_enter Try.func9, Try.ntmps9
      go_wp2
      go_ret
      exact ⟨rfl, B⟩
    · have d2 : decide ((hi.size : Int) ≤ 40) = false := decide_eq_false (by omega)
      have e : (⟨lo, hi, all⟩ : Sp).brief = false := by simp [Sp.brief, h2]
      rw [e]
      clear e h1 h2
      go_enter Try.func9, Try.ntmps9
      go_wp2
      go_ret
      exact ⟨rfl, B⟩
  · have d1 : decide ((lo.size : Int) ≤ 40) = false := decide_eq_false (by omega)
    have e : (⟨lo, hi, all⟩ : Sp).brief = false := by simp [Sp.brief, h1]
    rw [e]
    clear e h1
    go_enter Try.func9, Try.ntmps9
    go_wp2
    go_ret
    exact ⟨rfl, B⟩
theorem new_zero (w : World) : Free.Holds w.heap.size Rm.none.zeroRow (w.alloc (.cells Rm.none.zeroRow.toArray 33)) := holds_cells (heap_alloc_new w _)

set_option maxHeartbeats 4000000 in
theorem new_any (ver rate : Int) (sp : Sp) (a : Option Addr) (l : List En) (c : Nat) (w : World) (hl : l.length ≤ 500) (hs : ∀ e ∈ l, e.key.size ≤ 1000000) (hE : Ents w a l) :
    Calls Try.prog 10 #[.int .i64 ver, .int .i64 rate, sp.v, .slice a l.length c] w fun e w' => ∃ R s er, e = .returned (.tuple #[R.v s, .int .i64 er]) ∧ RevAt w' R s ∧ s.from_ w.heap.size ∧ Below w.heap.size w w' ∧
      ((rightB sp l = true ∧ R = ⟨ver, rate, sp, false, l, build (l.map En.key)⟩ ∧ er = 0) ∨ (rightB sp l = false ∧ R = Rm.none ∧ er = 1)) := by
  have hr := fun w' (hb : Below w.heap.size w w') => right_any sp a l c w' (by omega) (hE.below hb)
  have hy := fun w' (hb : Below w.heap.size w w') => lay_any ver rate sp a l c w' hl hs (hE.below hb)
  have HR := Lib.hid hr
  have HY := Lib.hid hy
  clear hr hy hE hs
  obtain ⟨lo, hi, all⟩ := sp
  have B := ((Below.refl w.heap.size w).alloc (Nat.le_refl _) (.cells #[.string lo, .string hi, .bool all] 28)).alloc (by simp) (.cells Rm.none.zeroRow.toArray 33)
  have hr0 := HR.out _ B
  have HB := Lib.hid B
  clear B HR
  simp only [Sp.v] at hr0 ⊢
  unfold Rm.zeroRow at hr0
  cases hh : rightB ⟨lo, hi, all⟩ l with
  | false =>
    rw [hh] at hr0
    go_enter Try.func10, Try.ntmps10
    go_wp2_with fail
    refine hr0.mono ?_
    rintro e w1 ⟨rfl, b1⟩
    have s1 := b1.size
    simp at s1
    have hz : Free.Holds (w.heap.size + 1) Rm.none.zeroRow w1 := by
      refine Free.Holds.below (holds_cells (t := 33) ?_) b1 (by simp)
      have := heap_alloc_new (w.alloc (.cells #[.string lo, .string hi, .bool all] 28)) (.cells Rm.none.zeroRow.toArray 33)
      rwa [show (w.alloc (.cells #[.string lo, .string hi, .bool all] 28)).heap.size = w.heap.size + 1 by simp] at this
    obtain ⟨W, hst, hW, hld, hqq, hsz⟩ := rev_done Rm.none Rs.none hz rfl
    have HB1 : Hid (Below w.heap.size w W) := Lib.hid (by
      rw [hW]
      exact Free.below_setCells (by omega) _ _ _ (HB.out.trans (b1.mono (by simp <;> omega))))
    simp only [Rm.v, Rm.none, Rs.none, zero, List.length_nil] at hst hld
    clear hW hqq hsz hz b1 hr0
    go_wp2_with (refine wpList_run_store rfl 33 (.tmp 8) (.tmp 14) rfl _ _ rfl rfl W hst ?_)
    exact bodyPost_ret (results_cell2 Try.results10 rfl rfl hld) rfl ⟨Rm.none, Rs.none, 1, rfl, rev_none _, from_none _, HB1.out, .inr ⟨trivial, rfl, rfl⟩⟩
  | true =>
    rw [hh] at hr0
    obtain ⟨T, hT⟩ : ∃ T, T = build (l.map En.key) := ⟨_, rfl⟩
    rw [← hT] at HY ⊢
    clear hT
    go_enter Try.func10, Try.ntmps10
    go_wp2_with fail
    refine hr0.mono ?_
    rintro e w1 ⟨rfl, b1⟩
    have s1 := b1.size
    simp at s1
    have c0 : w1.cell? ⟨w.heap.size, 0, none⟩ = some (.string lo) := keep b1 (by simp [go_sem]) (by simp <;> omega)
    have c1 : w1.cell? ⟨w.heap.size, 1, none⟩ = some (.string hi) := keep b1 (by simp [go_sem]) (by simp <;> omega)
    have c2 : w1.cell? ⟨w.heap.size, 2, none⟩ = some (.bool all) := keep b1 (by simp [go_sem]) (by simp <;> omega)
    have HZ : Hid (Free.Holds (w.heap.size + 1) Rm.none.zeroRow w1) := Lib.hid (by
      refine Free.Holds.below (holds_cells (t := 33) ?_) b1 (by simp)
      have := heap_alloc_new (w.alloc (.cells #[.string lo, .string hi, .bool all] 28)) (.cells Rm.none.zeroRow.toArray 33)
      rwa [show (w.alloc (.cells #[.string lo, .string hi, .bool all] 28)).heap.size = w.heap.size + 1 by simp] at this)
    have B1 := HB.out.trans (b1.mono (by simp <;> omega))
    have hy0 := HY.out _ B1
    have HB1 := Lib.hid B1
    simp only [Sp.v] at hy0
    clear B1 b1 hr0 HY
    go_wp2_with fail
    refine hy0.mono ?_
    rintro e w2 ⟨rs, rfl, hrev, hfr, b2⟩
    obtain ⟨W, hst, hW, hld, hqq, hsz⟩ := rev_done ⟨ver, rate, ⟨lo, hi, all⟩, false, l, T⟩ rs (HZ.out.below b2 (by omega)) rfl
    have HF : Hid (RevAt W ⟨ver, rate, ⟨lo, hi, all⟩, false, l, T⟩ rs ∧ Below w.heap.size w W) := Lib.hid ⟨by rw [hW]; exact hrev.put hfr (by omega) _, by
      rw [hW]
      exact Free.below_setCells (by omega) _ _ _ (HB1.out.trans (b2.mono (by omega)))⟩
    simp only [Rm.v] at hst hld ⊢
    clear hW hqq hsz b2 hy0 hrev c0 c1 c2 HZ
    go_wp2_with (refine wpList_run_store rfl 33 (.tmp 8) (.tmp 19) rfl _ _ rfl rfl W hst ?_)
    exact bodyPost_ret (results_cell2 Try.results10 rfl rfl hld) rfl ⟨⟨ver, rate, ⟨lo, hi, all⟩, false, l, T⟩, rs, 0, rfl, HF.out.1, Rs.from_mono (s := rs) hfr (by omega), HF.out.2, .inl ⟨trivial, rfl, rfl⟩⟩
end Go.Proofs.Ytkapjijppjfmkaa
