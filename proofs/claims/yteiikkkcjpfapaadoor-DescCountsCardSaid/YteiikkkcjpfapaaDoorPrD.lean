/- What held and Load come to. Conditions: at most 900000 asks. -/
import Derived.Test.YteiikkkcjpfapaaDoorPrC
namespace Go.Proofs.YteiikkkcjpfapaaDoor
open Go.RowKit Go.Op
set_option maxRecDepth 100000

theorem results_cell1 {fn : Func} {ts : Array Value} {w : World} {a : Tmp} {t : TypeId} {p : Addr} {v : Value} (h : fn.results = #[.cell a t]) (ha : ts.getD a undef = .pointer (some p)) (hl : (loadVar t p).run Tryd.prog w = .ok v w) : (results fn ts).run Tryd.prog w = .ok v w := by
  unfold results
  rw [h]
  simp [asAddr, ha, hl, -Array.getD_eq_getD_getElem?]
theorem results_cell2 {fn : Func} {ts : Array Value} {w : World} {a b : Tmp} {t : TypeId} {p : Addr} {v : Value} (x : Value) (h : fn.results = #[.cell a t, .tmp b]) (ha : ts.getD a undef = .pointer (some p)) (hb : ts.getD b undef = x) (hl : (loadVar t p).run Tryd.prog w = .ok v w) : (results fn ts).run Tryd.prog w = .ok (.tuple #[v, x]) w := by
  unfold results
  rw [h]
  simp [asAddr, ha, hb, hl, -Array.getD_eq_getD_getElem?]
theorem results_mid3 {fn : Func} {ts : Array Value} {w : World} {a b c : Tmp} {t : TypeId} {p : Addr} {v : Value} (x y : Value) (h : fn.results = #[.tmp a, .cell b t, .tmp c]) (ha : ts.getD a undef = x) (hb : ts.getD b undef = .pointer (some p)) (hc : ts.getD c undef = y) (hl : (loadVar t p).run Tryd.prog w = .ok v w) : (results fn ts).run Tryd.prog w = .ok (.tuple #[x, v, y]) w := by
  unfold results
  rw [h]
  simp [asAddr, ha, hb, hc, hl, -Array.getD_eq_getD_getElem?]
theorem results_mid4 {fn : Func} {ts : Array Value} {w : World} {a b c d : Tmp} {t : TypeId} {p : Addr} {v : Value} (x y z : Value) (h : fn.results = #[.tmp a, .cell b t, .tmp c, .tmp d]) (ha : ts.getD a undef = x) (hb : ts.getD b undef = .pointer (some p)) (hc : ts.getD c undef = y) (hd : ts.getD d undef = z) (hl : (loadVar t p).run Tryd.prog w = .ok v w) : (results fn ts).run Tryd.prog w = .ok (.tuple #[x, v, y, z]) w := by
  unfold results
  rw [h]
  simp [asAddr, ha, hb, hc, hd, hl, -Array.getD_eq_getD_getElem?]
section
variable {w0 : World} {b c r pb po : Nat} {t : Value} {G : List (Nat × List Sw)} {w : World} {m : M} {s : Pt}
theorem held_E (h : SysE w0 b c r pb po t G w m s) (hc : m.count ≤ 900000) (k : Int) :
    Calls Tryd.prog 66 #[.pointer (some ⟨pb, po, none⟩), .int .i64 k] w fun e w' => Ev w0 b c r pb po t G w RHeld ((heldP k).run s m) e w' := by
  have hb0 := (Below.refl w.heap.size w).alloc (Nat.le_refl _) dobj
  have hl := eload (h.later hb0) hc k
  have HL := Lib.hid (h.fresh dobj)
  have HV := Lib.hid (dnew w)
  have HB := Lib.hid hb0
  clear h hb0
  unfold dobj at hl
  go_enter Tryd.func66, Tryd.ntmps66
  go_wp2_with fail
  refine hl.mono ?_
  rintro e w1 hE
  rcases hE.cases with ⟨t1, G1, s1, m1, ho, rfl, ha⟩ | ⟨t1, G1, s1, m1, a, v, ho, rfl, ⟨x, hx, hi, rfl⟩, ha⟩
  · have HE : Hid (Ev w0 b c r pb po t G w RHeld ((heldP k).run s m) (Halt pb po) w1) := Ev.die (by rw [heldP, Pr.run_ask, ho]) (ha.back HB.out)
    clear hl hE ho ha
    unfold Halt
    go_wp2
    exact ⟨rfl, HE.out⟩
  · obtain ⟨v1, l1⟩ := ha.cells HL.out HV.out
    have hrun : (heldP k).run s m = (some (heldR a), s1, m1) := by rw [heldP, Pr.run_ask, ho]; simp only [Pr.run]
    have ha1 := ha.back HB.out
    have hz := v1.lt
    have fz := v1.fz
    obtain ⟨c0, c1, c2, c3⟩ := v1.cells
    by_cases herr : a.err = 0
    · obtain ⟨d, ok, has, hdi, hval, hno⟩ := as52_any x
      have hR : heldR a = heldR ⟨x.e, 0, false, 0⟩ := by unfold heldR; rw [herr, hx]
      have hf : ∀ d' : Ds, d'.e = (heldR a).1 → d'.In G1 → Hid (∀ o : Obj, Ev w0 b c r pb po t G w RHeld ((heldP k).run s m) (.returned (.tuple #[d'.v, .int .i64 (heldR a).2])) ((dput w1 w.heap.size d').alloc o) ∧ (loadVar 52 ⟨w.heap.size, 0, none⟩).run Tryd.prog ((dput w1 w.heap.size d').alloc o) = .ok d'.v ((dput w1 w.heap.size d').alloc o)) := fun d' e1 e2 o =>
        have hb := (Below.refl (dput w1 w.heap.size d').heap.size (dput w1 w.heap.size d')).alloc (Nat.le_refl _) o
        ⟨Ev.ret hrun ⟨d', e1, e2, rfl⟩ ((ha1.aside (dput_but _ _ _) l1 (Nat.le_refl _)).later hb), ((v1.put d').later hb).loadVar⟩
      rw [herr]
      cases ok with
      | true =>
        have HF := hf d (by rw [hR, ← hval]; rfl) (hdi _ hi)
        rw [show (heldR a).2 = 0 by rw [hR, ← hval]; rfl] at HF
        unfold Ds.v at has
        clear hl hE ho ha v1 l1 hrun ha1 herr hdi hval hno hf hR hi hx
        go_wp2
        exact bodyPost_ret (results_cell2 (.int .i64 0) Tryd.results66 rfl rfl (HF.out _).2) rfl (HF.out _).1
      | false =>
        have hd0 := hno rfl
        subst hd0
        have HF := hf d0 (by rw [hR, ← hval]; rfl) d0_in
        rw [show (heldR a).2 = 6 by rw [hR, ← hval]; rfl] at HF
        unfold Ds.v at has
        simp only [d0] at has
        clear hl hE ho ha v1 l1 hrun ha1 herr hdi hval hno hf hR hi hx
        go_wp2
        exact bodyPost_ret (results_cell2 (.int .i64 6) Tryd.results66 rfl rfl (HF.out _).2) rfl (HF.out _).1
    · have hR : heldR a = (d0, a.err) := by unfold heldR; rw [if_neg herr]
      have HF : Hid (Ev w0 b c r pb po t G w RHeld ((heldP k).run s m) (.returned (.tuple #[d0.v, .int .i64 a.err])) (dput w1 w.heap.size d0) ∧ (loadVar 52 ⟨w.heap.size, 0, none⟩).run Tryd.prog (dput w1 w.heap.size d0) = .ok d0.v (dput w1 w.heap.size d0)) :=
        ⟨Ev.ret hrun ⟨d0, by rw [hR]; rfl, d0_in, by rw [hR]⟩ (ha1.aside (dput_but _ _ _) l1 (Nat.le_refl _)), (v1.put d0).loadVar⟩
      clear hl hE ho ha v1 l1 hrun ha1 hR hi hx
      go_wp2
      exact bodyPost_ret (results_cell2 (.int .i64 a.err) Tryd.results66 rfl rfl HF.out.2) rfl HF.out.1
end
end Go.Proofs.YteiikkkcjpfapaaDoor
