/- What held comes to, of ages and of nodes. Conditions: at most 900000 asks. -/
import Derived.Test.YtbcpdkmbbgcfbaaDoorNv
namespace Go.Proofs.YtbcpdkmbbgcfbaaDoor
open Go.RowKit Go.Op
set_option maxRecDepth 100000

def aobj : Obj := .cells #[.int .i64 0, .int .i64 0, .string { data := #[] }, .string { data := #[] }, .bool false, .bool false, .slice none 0 0, .slice none 0 0, .slice none 0 0, .slice none 0 0, .int .i64 0] 42
def nobj : Obj := .cells #[.string { data := #[] }, .int .i64 0, .slice none 0 0] 27
section
variable {w0 : World} {b c r pb po : Nat} {t : Value} {G : List (Nat × List Value)} {w : World} {m : M} {s : Pt}
set_option maxHeartbeats 1000000 in
theorem heldA_E (h : SysE w0 b c r pb po t G w m s) (hc : m.count ≤ 900000) (k : Int) :
    Calls Tryd.prog 48 #[.pointer (some ⟨pb, po, none⟩), .int .i64 k] w fun e w' => Ev w0 b c r pb po t G w RAge ((takeP k).run s m) e w' := by
  obtain ⟨wa, hwa⟩ : ∃ W, W = (w.alloc aobj).alloc aobj := ⟨_, rfl⟩
  have hsz : (w.alloc aobj).heap.size = w.heap.size + 1 := by simp
  have b1 := (Below.refl w.heap.size w).alloc (Nat.le_refl _) aobj
  have b2 := (Below.refl (w.alloc aobj).heap.size (w.alloc aobj)).alloc (Nat.le_refl _) aobj
  have ba : Below w.heap.size w wa := by rw [hwa]; exact b1.alloc (by simp) _
  have va : SVar wa w.heap.size (ag0.row .nil) := by rw [hwa]; exact (snew w (ag0.row .nil) 42).later b2
  have vb : SVar wa (w.heap.size + 1) (ag0.row .nil) := by
    have := snew (w.alloc aobj) (ag0.row .nil) 42
    rw [hsz] at this
    rw [hwa]; exact this
  have la : Loc w0 b c r pb t G wa w.heap.size := by rw [hwa]; exact (h.fresh aobj).same b2.size
  have lb : Loc w0 b c r pb t G wa (w.heap.size + 1) := by
    have := (h.later b1).fresh aobj
    rw [hsz] at this
    rw [hwa]; exact this
  have hl := eload (h.later ba) hc k
  have HW := Lib.hid hwa.symm
  have HB := Lib.hid ba
  have HVA := Lib.hid va
  have HVB := Lib.hid vb
  have HLA := Lib.hid la
  have HLB := Lib.hid lb
  unfold aobj at HW
  clear h hwa hsz b1 b2 ba va vb la lb
  go_enter Tryd.func48, Tryd.ntmps48
  go_wp2_with (first | rw [HW.out] | fail)
  refine hl.mono ?_
  rintro e w1 hE
  rcases hE.cases with ⟨t1, G1, s1, m1, ho, rfl, ha⟩ | ⟨t1, G1, s1, m1, a, v, ho, rfl, ⟨x, hx, hi, rfl⟩, ha⟩
  · have HE : Hid (Ev w0 b c r pb po t G w RAge ((takeP k).run s m) (Halt pb po) w1) := Ev.die (by rw [takeP, Pr.run_ask, ho]) (ha.back HB.out)
    clear hl hE ho ha
    unfold Halt
    go_wp2
    exact ⟨rfl, HE.out⟩
  · obtain ⟨v1, l1⟩ := ha.svar HLA.out HVA.out
    obtain ⟨v2, _⟩ := ha.svar HLB.out HVB.out
    have hrun : (takeP k).run s m = (some (heldA a), s1, m1) := by rw [takeP, Pr.run_ask, ho]; simp only [Pr.run]
    have ha1 := ha.back HB.out
    have hz := v1.lt
    have hz2 := v2.lt
    have fz := v1.fz
    by_cases herr : a.err = 0
    · obtain ⟨d, p, ok, has, hdi, hval, hno⟩ := as42_any x
      have hR : heldA a = heldA ⟨x.e, 0, false, 0⟩ := by unfold heldA; rw [herr, hx]
      have hf : ∀ (d' : Ag) (p' : Pl), d' = (heldA a).1 → d'.d.In G1 p' → Hid (Ev w0 b c r pb po t G w RAge ((takeP k).run s m) (.returned (.tuple #[d'.v p', .int .i64 (heldA a).2])) (sput (w1.alloc (.cells (d'.row p').toArray 42)) w.heap.size (d'.row p')) ∧ (loadVar 42 ⟨w.heap.size, 0, none⟩).run Tryd.prog (sput (w1.alloc (.cells (d'.row p').toArray 42)) w.heap.size (d'.row p')) = .ok (d'.v p') (sput (w1.alloc (.cells (d'.row p').toArray 42)) w.heap.size (d'.row p'))) := fun d' p' e1 e2 =>
        have hb := (Below.refl w1.heap.size w1).alloc (Nat.le_refl _) (.cells (d'.row p').toArray 42)
        ⟨Ev.ret hrun ⟨p', by rw [← e1]; exact e2, by rw [← e1]⟩ ((ha1.later hb).aside (But.sput _ _ _) (l1.same hb.size) (Nat.le_refl _)), ((v1.later hb).put (row' := d'.row p') rfl).loadVar sh42⟩
      rw [herr]
      cases ok with
      | true =>
        have HF := hf d p (by rw [hR, ← hval]; rfl) (hdi _ hi)
        rw [show (heldA a).2 = 0 by rw [hR, ← hval]; rfl] at HF
        have hld := (snew w1 (d.row p) 42).load sh42
        have hst := (v1.later ((Below.refl w1.heap.size w1).alloc (Nat.le_refl _) (.cells (d.row p).toArray 42))).store (row' := d.row p) rfl sh42 (d.row_one p)
        generalize sput (w1.alloc (.cells (d.row p).toArray 42)) w.heap.size (d.row p) = W at hst HF
        unfold Ag.v at has
        simp only [Ag.row] at hld hst
        clear hl hE ho ha v1 l1 v2 hrun ha1 herr hdi hval hno hf hR hi hx
        go_wp2_with (first | ((with_reducible refine load_run ?_ (.tmp 9) 42 ?_ ?_ hld ?_); exact rfl; exact rfl; exact rfl) | ((with_reducible refine store_run ?_ (.tmp 4) (.tmp 27) 42 ?_ ?_ ?_ hst ?_); exact rfl; exact rfl; exact rfl; exact rfl))
        exact bodyPost_ret (res_ct (.int .i64 0) Tryd.results48 rfl rfl HF.out.2) rfl HF.out.1
      | false =>
        obtain ⟨rfl, rfl⟩ := hno rfl
        have HF := hf ag0 .nil (by rw [hR, ← hval]; rfl) rv0_in
        rw [show (heldA a).2 = 6 by rw [hR, ← hval]; rfl] at HF
        have hld := (v2.later ((Below.refl w1.heap.size w1).alloc (Nat.le_refl _) (.cells (ag0.row .nil).toArray 42))).load sh42
        have hst := (v1.later ((Below.refl w1.heap.size w1).alloc (Nat.le_refl _) (.cells (ag0.row .nil).toArray 42))).store (row' := ag0.row .nil) rfl sh42 (ag0.row_one .nil)
        generalize sput (w1.alloc (.cells (ag0.row .nil).toArray 42)) w.heap.size (ag0.row .nil) = W at hst HF
        simp only [Ag.v, ag0, rv0, Pl.nil, Sl.nil] at has
        simp only [Ag.row, ag0, rv0, Pl.nil, Sl.nil] at hld hst
        clear hl hE ho ha v1 l1 v2 hrun ha1 herr hdi hval hno hf hR hi hx
        go_wp2_with (first | ((with_reducible refine load_run ?_ (.tmp 6) 42 ?_ ?_ hld ?_); exact rfl; exact rfl; exact rfl) | ((with_reducible refine store_run ?_ (.tmp 4) (.tmp 28) 42 ?_ ?_ ?_ hst ?_); exact rfl; exact rfl; exact rfl; exact rfl))
        exact bodyPost_ret (res_ct (.int .i64 6) Tryd.results48 rfl rfl HF.out.2) rfl HF.out.1
    · have hR : heldA a = (ag0, a.err) := by unfold heldA; rw [if_neg herr]
      have HF : Hid (Ev w0 b c r pb po t G w RAge ((takeP k).run s m) (.returned (.tuple #[ag0.v .nil, .int .i64 a.err])) (sput w1 w.heap.size (ag0.row .nil)) ∧ (loadVar 42 ⟨w.heap.size, 0, none⟩).run Tryd.prog (sput w1 w.heap.size (ag0.row .nil)) = .ok (ag0.v .nil) (sput w1 w.heap.size (ag0.row .nil))) :=
        ⟨Ev.ret hrun ⟨.nil, by rw [hR]; exact rv0_in, by rw [hR]⟩ (ha1.aside (But.sput _ _ _) l1 (Nat.le_refl _)), (v1.put (row' := ag0.row .nil) rfl).loadVar sh42⟩
      have hld := v2.load sh42
      have hst := v1.store (row' := ag0.row .nil) rfl sh42 (ag0.row_one .nil)
      generalize sput w1 w.heap.size (ag0.row .nil) = W at hst HF
      simp only [Ag.row, ag0, rv0, Pl.nil, Sl.nil] at hld hst
      clear hl hE ho ha v1 l1 v2 hrun ha1 hR hi hx
      go_wp2_with (first | ((with_reducible refine load_run ?_ (.tmp 6) 42 ?_ ?_ hld ?_); exact rfl; exact rfl; exact rfl) | ((with_reducible refine store_run ?_ (.tmp 4) (.tmp 19) 42 ?_ ?_ ?_ hst ?_); exact rfl; exact rfl; exact rfl; exact rfl))
      exact bodyPost_ret (res_ct (.int .i64 a.err) Tryd.results48 rfl rfl HF.out.2) rfl HF.out.1
set_option maxHeartbeats 1000000 in
theorem heldN_E (h : SysE w0 b c r pb po t G w m s) (hc : m.count ≤ 900000) (k : Int) :
    Calls Tryd.prog 60 #[.pointer (some ⟨pb, po, none⟩), .int .i64 k] w fun e w' => Ev w0 b c r pb po t G w RNode ((loadP k).run s m) e w' := by
  obtain ⟨wa, hwa⟩ : ∃ W, W = (w.alloc nobj).alloc nobj := ⟨_, rfl⟩
  have hsz : (w.alloc nobj).heap.size = w.heap.size + 1 := by simp
  have b1 := (Below.refl w.heap.size w).alloc (Nat.le_refl _) nobj
  have b2 := (Below.refl (w.alloc nobj).heap.size (w.alloc nobj)).alloc (Nat.le_refl _) nobj
  have ba : Below w.heap.size w wa := by rw [hwa]; exact b1.alloc (by simp) _
  have va : SVar wa w.heap.size (nd0.row .nil) := by rw [hwa]; exact (snew w (nd0.row .nil) 27).later b2
  have vb : SVar wa (w.heap.size + 1) (nd0.row .nil) := by
    have := snew (w.alloc nobj) (nd0.row .nil) 27
    rw [hsz] at this
    rw [hwa]; exact this
  have la : Loc w0 b c r pb t G wa w.heap.size := by rw [hwa]; exact (h.fresh nobj).same b2.size
  have lb : Loc w0 b c r pb t G wa (w.heap.size + 1) := by
    have := (h.later b1).fresh nobj
    rw [hsz] at this
    rw [hwa]; exact this
  have hl := eload (h.later ba) hc k
  have HW := Lib.hid hwa.symm
  have HB := Lib.hid ba
  have HVA := Lib.hid va
  have HVB := Lib.hid vb
  have HLA := Lib.hid la
  have HLB := Lib.hid lb
  unfold nobj at HW
  clear h hwa hsz b1 b2 ba va vb la lb
  go_enter Tryd.func60, Tryd.ntmps60
  go_wp2_with (first | rw [HW.out] | fail)
  refine hl.mono ?_
  rintro e w1 hE
  rcases hE.cases with ⟨t1, G1, s1, m1, ho, rfl, ha⟩ | ⟨t1, G1, s1, m1, a, v, ho, rfl, ⟨x, hx, hi, rfl⟩, ha⟩
  · have HE : Hid (Ev w0 b c r pb po t G w RNode ((loadP k).run s m) (Halt pb po) w1) := Ev.die (by rw [loadP, Pr.run_ask, ho]) (ha.back HB.out)
    clear hl hE ho ha
    unfold Halt
    go_wp2
    exact ⟨rfl, HE.out⟩
  · obtain ⟨v1, l1⟩ := ha.svar HLA.out HVA.out
    obtain ⟨v2, _⟩ := ha.svar HLB.out HVB.out
    have hrun : (loadP k).run s m = (some (heldN a), s1, m1) := by rw [loadP, Pr.run_ask, ho]; simp only [Pr.run]
    have ha1 := ha.back HB.out
    have hz := v1.lt
    have hz2 := v2.lt
    have fz := v1.fz
    by_cases herr : a.err = 0
    · obtain ⟨d, p, ok, has, hdi, hval, hno⟩ := as27_any x
      have hR : heldN a = heldN ⟨x.e, 0, false, 0⟩ := by unfold heldN; rw [herr, hx]
      have hf : ∀ (d' : Nd) (p' : Pl), d' = (heldN a).1 → d'.d.In G1 p' → Hid (Ev w0 b c r pb po t G w RNode ((loadP k).run s m) (.returned (.tuple #[d'.v p', .int .i64 (heldN a).2])) (sput (w1.alloc (.cells (d'.row p').toArray 27)) w.heap.size (d'.row p')) ∧ (loadVar 27 ⟨w.heap.size, 0, none⟩).run Tryd.prog (sput (w1.alloc (.cells (d'.row p').toArray 27)) w.heap.size (d'.row p')) = .ok (d'.v p') (sput (w1.alloc (.cells (d'.row p').toArray 27)) w.heap.size (d'.row p'))) := fun d' p' e1 e2 =>
        have hb := (Below.refl w1.heap.size w1).alloc (Nat.le_refl _) (.cells (d'.row p').toArray 27)
        ⟨Ev.ret hrun ⟨p', by rw [← e1]; exact e2, by rw [← e1]⟩ ((ha1.later hb).aside (But.sput _ _ _) (l1.same hb.size) (Nat.le_refl _)), ((v1.later hb).put (row' := d'.row p') rfl).loadVar sh27⟩
      rw [herr]
      cases ok with
      | true =>
        have HF := hf d p (by rw [hR, ← hval]; rfl) (hdi _ hi)
        rw [show (heldN a).2 = 0 by rw [hR, ← hval]; rfl] at HF
        have hld := (snew w1 (d.row p) 27).load sh27
        have hst := (v1.later ((Below.refl w1.heap.size w1).alloc (Nat.le_refl _) (.cells (d.row p).toArray 27))).store (row' := d.row p) rfl sh27 (d.row_one p)
        generalize sput (w1.alloc (.cells (d.row p).toArray 27)) w.heap.size (d.row p) = W at hst HF
        unfold Nd.v at has
        simp only [Nd.row] at hld hst
        clear hl hE ho ha v1 l1 v2 hrun ha1 herr hdi hval hno hf hR hi hx
        go_wp2_with (first | ((with_reducible refine load_run ?_ (.tmp 9) 27 ?_ ?_ hld ?_); exact rfl; exact rfl; exact rfl) | ((with_reducible refine store_run ?_ (.tmp 4) (.tmp 27) 27 ?_ ?_ ?_ hst ?_); exact rfl; exact rfl; exact rfl; exact rfl))
        exact bodyPost_ret (res_ct (.int .i64 0) Tryd.results60 rfl rfl HF.out.2) rfl HF.out.1
      | false =>
        obtain ⟨rfl, rfl⟩ := hno rfl
        have HF := hf nd0 .nil (by rw [hR, ← hval]; rfl) nd0_in
        rw [show (heldN a).2 = 6 by rw [hR, ← hval]; rfl] at HF
        have hld := (v2.later ((Below.refl w1.heap.size w1).alloc (Nat.le_refl _) (.cells (nd0.row .nil).toArray 27))).load sh27
        have hst := (v1.later ((Below.refl w1.heap.size w1).alloc (Nat.le_refl _) (.cells (nd0.row .nil).toArray 27))).store (row' := nd0.row .nil) rfl sh27 (nd0.row_one .nil)
        generalize sput (w1.alloc (.cells (nd0.row .nil).toArray 27)) w.heap.size (nd0.row .nil) = W at hst HF
        simp only [Nd.v, nd0, Pl.nil, Sl.nil] at has
        simp only [Nd.row, nd0, Pl.nil, Sl.nil] at hld hst
        clear hl hE ho ha v1 l1 v2 hrun ha1 herr hdi hval hno hf hR hi hx
        go_wp2_with (first | ((with_reducible refine load_run ?_ (.tmp 6) 27 ?_ ?_ hld ?_); exact rfl; exact rfl; exact rfl) | ((with_reducible refine store_run ?_ (.tmp 4) (.tmp 28) 27 ?_ ?_ ?_ hst ?_); exact rfl; exact rfl; exact rfl; exact rfl))
        exact bodyPost_ret (res_ct (.int .i64 6) Tryd.results60 rfl rfl HF.out.2) rfl HF.out.1
    · have hR : heldN a = (nd0, a.err) := by unfold heldN; rw [if_neg herr]
      have HF : Hid (Ev w0 b c r pb po t G w RNode ((loadP k).run s m) (.returned (.tuple #[nd0.v .nil, .int .i64 a.err])) (sput w1 w.heap.size (nd0.row .nil)) ∧ (loadVar 27 ⟨w.heap.size, 0, none⟩).run Tryd.prog (sput w1 w.heap.size (nd0.row .nil)) = .ok (nd0.v .nil) (sput w1 w.heap.size (nd0.row .nil))) :=
        ⟨Ev.ret hrun ⟨.nil, by rw [hR]; exact nd0_in, by rw [hR]⟩ (ha1.aside (But.sput _ _ _) l1 (Nat.le_refl _)), (v1.put (row' := nd0.row .nil) rfl).loadVar sh27⟩
      have hld := v2.load sh27
      have hst := v1.store (row' := nd0.row .nil) rfl sh27 (nd0.row_one .nil)
      generalize sput w1 w.heap.size (nd0.row .nil) = W at hst HF
      simp only [Nd.row, nd0, Pl.nil, Sl.nil] at hld hst
      clear hl hE ho ha v1 l1 v2 hrun ha1 hR hi hx
      go_wp2_with (first | ((with_reducible refine load_run ?_ (.tmp 6) 27 ?_ ?_ hld ?_); exact rfl; exact rfl; exact rfl) | ((with_reducible refine store_run ?_ (.tmp 4) (.tmp 19) 27 ?_ ?_ ?_ hst ?_); exact rfl; exact rfl; exact rfl; exact rfl))
      exact bodyPost_ret (res_ct (.int .i64 a.err) Tryd.results60 rfl rfl HF.out.2) rfl HF.out.1
end
end Go.Proofs.YtbcpdkmbbgcfbaaDoor
