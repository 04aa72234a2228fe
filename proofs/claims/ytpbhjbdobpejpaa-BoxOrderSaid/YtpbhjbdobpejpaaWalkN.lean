/- Three boxes of the reference in memory, put into boxes of the program in whatever order: what stays true meanwhile. No condition. -/
import Derived.Test.YtpbhjbdobpejpaaInv
import Derived.Test.YtpbhjbdobpejpaaWalkK
import Derived.Test.YtpbhjbdobpejpaaOpen
namespace Go.Proofs.Ytpbhjbdobpejpaa
open Go.RowKit Go.Op

theorem eval_put_ne {t : Act} {d j : Nat} {v : Value} (h : d ≠ j) : (t.put (some d) v).eval (.tmp j) = t.eval (.tmp j) := by
  simp [Act.put, Act.eval, h]
theorem eval_put_eq {t : Act} {d : Nat} {v : Value} (h : d < t.tmps.size) : (t.put (some d) v).eval (.tmp d) = v := by
  simp [Act.put, Act.eval, h]
theorem size_put {t : Act} {d : Nat} {v : Value} : (t.put (some d) v).tmps.size = t.tmps.size := by simp [Act.put]
theorem lor {L : Nat → Bool} {i j : Nat} (h : (j == i || L j) = true) (hn : j ≠ i) : L j = true := by simpa [hn] using h
theorem lor_eq {L : Nat → Bool} {i j : Nat} (hn : j ≠ i) : (j == i || L j) = L j := by simp [hn]

def Raw (p : Nat) (k n : Int) (s : ByteArray) (w : World) : Prop := w.cell? ⟨p, 0, none⟩ = some (.int .i64 k) ∧ w.cell? ⟨p, 1, none⟩ = some (.int .i64 n) ∧ w.cell? ⟨p, 2, none⟩ = some (.string s)
theorem load_raw {p : Nat} {k n : Int} {s : ByteArray} {w : World} (h : Raw p k n s w) : (Instr.loadAt 23 (.pointer (some ⟨p, 0, none⟩))).run Try.prog w = .ok (boxV k n s) w := by
  obtain ⟨h0, h1, h2⟩ := h
  unfold boxV
  go_simp
theorem Raw.keep {p : Nat} {k n : Int} {s : ByteArray} {w1 w2 : World} (h : Raw p k n s w1) (hb : Below w1.heap.size w1 w2) (hp : p < w1.heap.size) : Raw p k n s w2 :=
  ⟨Proofs.Ytpbhjbdobpejpaa.keep hb h.1 hp, Proofs.Ytpbhjbdobpejpaa.keep hb h.2.1 hp, Proofs.Ytpbhjbdobpejpaa.keep hb h.2.2 hp⟩

structure Inv3 (w0 : World) (bs : Nat → Bx) (ks ns : Nat → Int) (ss : Nat → ByteArray) (L : Nat → Bool) (t : Act) (w : World) : Prop where
  d : t.defers = []
  z : t.tmps.size = 59
  s : ∀ x : Nat, x < 3 → t.eval (.tmp (3 + x)) = .pointer (some ⟨w0.heap.size + x, 0, none⟩)
  ld : ∀ x : Nat, x < 3 → L (2 * x) = true → t.eval (.tmp (31 + 2 * x)) = boxV (ks x) (ns x) (ss x)
  cl : ∀ x : Nat, x < 3 → L (2 * x + 1) = true → t.eval (.tmp (32 + 2 * x)) = .agg #[(bs x).v]
  i9 : ∀ x : Nat, x < 3 → L (9 + x) = true → L (6 + x) = true
  al : ∀ x : Nat, x < 3 → L (6 + x) = true → ∃ p, t.eval (.tmp (7 + x)) = .pointer (some ⟨p, 0, none⟩) ∧ w0.heap.size + 3 ≤ p ∧ p < w.heap.size ∧ w.cell? ⟨p, 0, none⟩ = some (if L (9 + x) then (bs x).v else .nilIface) ∧ w.frozen? ⟨p, 0, none⟩ = false
  ne : ∀ x y : Nat, x < 3 → y < 3 → x ≠ y → L (6 + x) = true → L (6 + y) = true → t.eval (.tmp (7 + x)) ≠ t.eval (.tmp (7 + y))
  ce : ∀ x : Nat, x < 3 → Raw (w0.heap.size + x) (ks x) (ns x) (ss x) w
  hz : w0.heap.size + 3 ≤ w.heap.size
  be : Below w0.heap.size w0 w

section
variable {w0 : World} {bs : Nat → Bx} {ks ns : Nat → Int} {ss : Nat → ByteArray} {L : Nat → Bool} {t : Act} {w : World}

theorem Inv3.load (h : Inv3 w0 bs ks ns ss L t w) {x : Nat} (hx : x < 3) : Inv3 w0 bs ks ns ss (fun j => j == 2 * x || L j) (t.put (some (31 + 2 * x)) (boxV (ks x) (ns x) (ss x))) w where
  d := h.d
  z := by rw [size_put]; exact h.z
  s := fun y hy => by
    have hy3 : y < 3 := hy
    exact (eval_put_ne (d := 31 + 2 * x) (j := 3 + y) (by omega)).trans (h.s y hy)
  ld y hy hl := by
    by_cases e : y = x
    · subst e; rw [eval_put_eq (by rw [h.z]; omega)]
    · rw [eval_put_ne (by omega)]; exact h.ld y hy (lor hl (by omega))
  cl y hy hl := by rw [eval_put_ne (by omega)]; exact h.cl y hy (lor hl (by omega))
  i9 y hy hl := by simp [h.i9 y hy (lor (i := 2 * x) (j := 9 + y) hl (by omega))]
  al y hy hl := by
    simp only [lor_eq (L := L) (i := 2 * x) (j := 9 + y) (by omega)]
    rw [eval_put_ne (by omega)]
    exact h.al y hy (lor hl (by omega))
  ne y u hy hu hne h1 h2 := by rw [eval_put_ne (by omega), eval_put_ne (by omega)]; exact h.ne y u hy hu hne (lor h1 (by omega)) (lor h2 (by omega))
  ce := h.ce
  hz := h.hz
  be := h.be

theorem Inv3.call (h : Inv3 w0 bs ks ns ss L t w) {x : Nat} (hx : x < 3) {w' : World} (hb : Below w.heap.size w w') : Inv3 w0 bs ks ns ss (fun j => j == 2 * x + 1 || L j) (t.put (some (32 + 2 * x)) (.agg #[(bs x).v])) w' where
  d := h.d
  z := by rw [size_put]; exact h.z
  s := fun y hy => by
    have hy3 : y < 3 := hy
    exact (eval_put_ne (d := 32 + 2 * x) (j := 3 + y) (by omega)).trans (h.s y hy)
  ld y hy hl := by rw [eval_put_ne (by omega)]; exact h.ld y hy (lor hl (by omega))
  cl y hy hl := by
    by_cases e : y = x
    · subst e; rw [eval_put_eq (by rw [h.z]; omega)]
    · rw [eval_put_ne (by omega)]; exact h.cl y hy (lor hl (by omega))
  i9 y hy hl := by simp [h.i9 y hy (lor (i := 2 * x + 1) (j := 9 + y) hl (by omega))]
  al y hy hl := by
    simp only [lor_eq (L := L) (i := 2 * x + 1) (j := 9 + y) (by omega)]
    rw [eval_put_ne (by omega)]
    obtain ⟨p, h1, h2, h3, h4, h5⟩ := h.al y hy (lor hl (by omega))
    exact ⟨p, h1, h2, Nat.lt_of_lt_of_le h3 hb.size, keep hb h4 h3, fkeep hb h5 h3⟩
  ne y u hy hu hne h1 h2 := by rw [eval_put_ne (by omega), eval_put_ne (by omega)]; exact h.ne y u hy hu hne (lor h1 (by omega)) (lor h2 (by omega))
  ce y hy := (h.ce y hy).keep hb (by have := h.hz; omega)
  hz := Nat.le_trans h.hz hb.size
  be := h.be.trans (hb.mono h.be.size)

theorem Inv3.alloc (h : Inv3 w0 bs ks ns ss L t w) {x : Nat} (hx : x < 3) (hL : L (6 + x) = false) : Inv3 w0 bs ks ns ss (fun j => j == 6 + x || L j) (t.put (some (7 + x)) (.pointer (some ⟨w.heap.size, 0, none⟩))) (w.alloc (.cells #[.nilIface] 27)) where
  d := h.d
  z := by rw [size_put]; exact h.z
  s := fun y hy => by
    have hy3 : y < 3 := hy
    exact (eval_put_ne (d := 7 + x) (j := 3 + y) (by omega)).trans (h.s y hy)
  ld y hy hl := by rw [eval_put_ne (by omega)]; exact h.ld y hy (lor hl (by omega))
  cl y hy hl := by rw [eval_put_ne (by omega)]; exact h.cl y hy (lor hl (by omega))
  i9 y hy hl := by
    simp [h.i9 y hy (lor (i := 6 + x) (j := 9 + y) hl (by omega))]
  al y hy hl := by
    simp only [lor_eq (L := L) (i := 6 + x) (j := 9 + y) (by omega)]
    have hz := h.hz
    by_cases e : y = x
    · subst e
      have h9 : L (9 + y) = false := by
        cases h9 : L (9 + y) with
        | false => rfl
        | true => have := h.i9 y hy h9; rw [hL] at this; cases this
      refine ⟨w.heap.size, eval_put_eq (by rw [h.z]; omega), hz, by simp, ?_, by simp [go_sem]⟩
      rw [h9]
      simp [go_sem]
    · rw [eval_put_ne (by omega)]
      obtain ⟨p, h1, h2, h3, h4, h5⟩ := h.al y hy (lor hl (by omega))
      have hb : Below w.heap.size w (w.alloc (.cells #[.nilIface] 27)) := (Below.refl _ _).alloc (Nat.le_refl _) _
      exact ⟨p, h1, h2, Nat.lt_of_lt_of_le h3 hb.size, keep hb h4 h3, fkeep hb h5 h3⟩
  ne y u hy hu hne h1 h2 := by
    have far : ∀ y, y < 3 → y ≠ x → (y + 6 == 6 + x || L (6 + y)) = true → t.eval (.tmp (7 + y)) ≠ .pointer (some ⟨w.heap.size, 0, none⟩) := fun y hy hn hl => by
      obtain ⟨p, g1, g2, g3, g4, g5⟩ := h.al y hy (by simpa [show ¬ y + 6 = 6 + x by omega] using hl)
      rw [g1]
      intro e
      simp only [Value.pointer.injEq, Option.some.injEq, Addr.mk.injEq] at e
      omega
    by_cases e : y = x
    · subst e
      rw [eval_put_eq (by rw [h.z]; omega), eval_put_ne (by omega)]
      exact (far u hu (Ne.symm hne) (by rw [Nat.add_comm u 6]; exact h2)).symm
    · by_cases e2 : u = x
      · subst e2
        rw [eval_put_eq (by rw [h.z]; omega), eval_put_ne (by omega)]
        exact far y hy e (by rw [Nat.add_comm y 6]; exact h1)
      · rw [eval_put_ne (by omega), eval_put_ne (by omega)]
        exact h.ne y u hy hu hne (lor h1 (by omega)) (lor h2 (by omega))
  ce y hy := (h.ce y hy).keep ((Below.refl _ _).alloc (Nat.le_refl _) _) (by have := h.hz; omega)
  hz := Nat.le_trans h.hz (by simp)
  be := h.be.alloc h.be.size _

theorem Inv3.store (h : Inv3 w0 bs ks ns ss L t w) {x : Nat} (hx : x < 3) {p : Nat} (h6 : L (6 + x) = true) (hp : t.eval (.tmp (7 + x)) = .pointer (some ⟨p, 0, none⟩)) : Inv3 w0 bs ks ns ss (fun j => j == 9 + x || L j) t (w.setCell ⟨p, 0, none⟩ (bs x).v) := by
  obtain ⟨p', e1, e2, e3, e4, e5⟩ := h.al x hx h6
  have ep : p' = p := by
    rw [hp] at e1
    simp only [Value.pointer.injEq, Option.some.injEq, Addr.mk.injEq] at e1
    exact e1.1.symm
  subst ep
  exact {
    d := h.d
    z := h.z
    s := h.s
    ld := fun y hy hl => h.ld y hy (lor hl (by omega))
    cl := fun y hy hl => h.cl y hy (lor hl (by omega))
    i9 := fun y hy hl => by
      by_cases e : y = x
      · subst e; simp [h6]
      · simp [h.i9 y hy (lor (i := 9 + x) (j := 9 + y) hl (by omega))]
    al := fun y hy hl => by
      have hl' := lor hl (show 6 + y ≠ 9 + x by omega)
      by_cases e : y = x
      · subst e
        refine ⟨p', hp, e2, by simpa using e3, ?_, by simpa using e5⟩
        simp [go_sem, e4]
      · simp only [lor_eq (L := L) (i := 9 + x) (j := 9 + y) (by omega)]
        obtain ⟨q, g1, g2, g3, g4, g5⟩ := h.al y hy hl'
        have hpq : ¬ q = p' := by
          rintro rfl
          exact h.ne y x hy hx e hl' h6 (by rw [g1, hp])
        refine ⟨q, g1, g2, by simpa using g3, ?_, by simpa using g5⟩
        rw [World.cell?_setCell_other _ _ _ _ (by simp)]
        exact g4
    ne := fun y u hy hu hne h1 h2 => h.ne y u hy hu hne (lor h1 (by omega)) (lor h2 (by omega))
    ce := fun y hy => by
      obtain ⟨g1, g2, g3⟩ := h.ce y hy
      have hq : ¬ w0.heap.size + y = p' := by omega
      refine ⟨?_, ?_, ?_⟩
      · rw [World.cell?_setCell_other _ _ _ _ (by simp)]; exact g1
      · rw [World.cell?_setCell_other _ _ _ _ (by simp)]; exact g2
      · rw [World.cell?_setCell_other _ _ _ _ (by simp)]; exact g3
    hz := by simpa using h.hz
    be := h.be.setCell (by simp; omega) _ }
end
theorem run_load23 {t : Act} {o : Oper} {x : Operand} {p : Nat} {k n : Int} {s : ByteArray} {w : World} (ho : o.op = .load 23 x) (he : t.eval x = .pointer (some ⟨p, 0, none⟩)) (hr : Raw p k n s w) : (execOp t.eval o).run Try.prog w = .ok (.value (boxV k n s)) w := by
  generalize t.eval = ρ at he
  simp [execOp, ho, he, load_raw hr]
theorem run_call9 {t : Act} {o : Oper} {x : Operand} {v : Value} {w : World} (ho : o.op = .call { callee := .value (.func 9), args := #[x], argTypes := #[23] }) (he : t.eval x = v) (hf : t.eval (.func 9) = .func (.func 9) #[] #[]) : (execOp t.eval o).run Try.prog w = .ok (.enter 9 #[v]) w := by
  generalize t.eval = ρ at he hf
  simp [execOp, ho, he, hf, resolve, invoke, go_sem]
theorem run_alloc27 {t : Act} {o : Oper} {w : World} (ho : o.op = .alloc 27) : (execOp t.eval o).run Try.prog w = .ok (.value (.pointer (some ⟨w.heap.size, 0, none⟩))) (w.alloc (.cells #[.nilIface] 27)) := by
  simp [execOp, ho, go_sem]
theorem run_store27 {t : Act} {o : Oper} {x y : Operand} {p : Nat} {b : Bx} {u : Value} {w : World} (ho : o.op = .store 27 x y) (he : t.eval x = .pointer (some ⟨p, 0, none⟩)) (hv : t.eval y = .agg #[b.v]) (hc : w.cell? ⟨p, 0, none⟩ = some u) (hf : w.frozen? ⟨p, 0, none⟩ = false) :
    (execOp t.eval o).run Try.prog w = .ok .skip (w.setCell ⟨p, 0, none⟩ b.v) := by
  have st := st_v
  generalize t.eval = ρ at he hv
  simp [execOp, ho, he, hv, go_sem, hc, hf, st]
end Go.Proofs.Ytpbhjbdobpejpaa
