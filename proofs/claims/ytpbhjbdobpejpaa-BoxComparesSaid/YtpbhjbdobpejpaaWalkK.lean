/- Two boxes of the reference in memory, and what loads and comparisons of them yield. No condition. -/
import Derived.Test.YtpbhjbdobpejpaaWalkI
import Derived.Test.YtpbhjbdobpejpaaWalkE
import Derived.Test.YtpbhjbdobpejpaaWalkF
namespace Go.Proofs.Ytpbhjbdobpejpaa
open Go.RowKit Go.Op

def Plain3 (p : Nat) (b : Bx) (w : World) : Prop := w.cell? ⟨p, 0, none⟩ = some (.int .i64 b.kd) ∧ w.cell? ⟨p, 1, none⟩ = some (.int .i64 b.int) ∧ w.cell? ⟨p, 2, none⟩ = some (.string b.str)
theorem Plain3.keep {p : Nat} {b : Bx} {w1 w2 : World} (h : Plain3 p b w1) (hb : Below w1.heap.size w1 w2) (hp : p < w1.heap.size) : Plain3 p b w2 :=
  ⟨Proofs.Ytpbhjbdobpejpaa.keep hb h.1 hp, Proofs.Ytpbhjbdobpejpaa.keep hb h.2.1 hp, Proofs.Ytpbhjbdobpejpaa.keep hb h.2.2 hp⟩
theorem Plain3.drew {p : Nat} {b : Bx} {w1 : World} (h : Plain3 p b w1) : Plain3 p b w1.drew := h
theorem load_23 {p : Nat} {b : Bx} {w : World} (h : Plain3 p b w) : (Instr.loadAt 23 (.pointer (some ⟨p, 0, none⟩))).run Try.prog w = .ok b.plain w := by
  obtain ⟨h0, h1, h2⟩ := h
  unfold Bx.plain
  go_simp
def Held2 (w : World) (a b : Bx) (w' : World) : Prop := Plain3 w.heap.size a w' ∧ Plain3 (w.heap.size + 1) b w' ∧ w.heap.size + 2 ≤ w'.heap.size ∧ Below w.heap.size w w'
theorem Held2.keep {w w1 w2 : World} {a b : Bx} (h : Held2 w a b w1) (hb : Below w1.heap.size w1 w2) : Held2 w a b w2 := by
  obtain ⟨h1, h2, h3, h4⟩ := h
  exact ⟨h1.keep hb (by omega), h2.keep hb (by omega), Nat.le_trans h3 hb.size, h4.trans (hb.mono h4.size)⟩
theorem Held2.drew {w w1 : World} {a b : Bx} (h : Held2 w a b w1) : Held2 w a b w1.drew := ⟨h.1, h.2.1, h.2.2.1, drew_below h.2.2.2⟩

theorem of_plain (b : Bx) (w : World) : Calls Try.prog 9 #[b.plain] w fun e w' => e = .returned (.agg #[b.v]) ∧ Below w.heap.size w w' := by
  refine (of_any b.kd b.int b.str w).mono fun e w' h => ?_
  rw [ofZ_id] at h
  exact h

theorem plain_eq (a b : Bx) (xo yo : Operand) (w : World) : (eqGuard .eql 23 xo yo a.plain b.plain).run Try.prog w = .ok () w ∧ (binOp .eql 23 a.plain b.plain).run Try.prog w = .ok (.bool (decide (a.cmp b = 0))) w := by
  constructor
  · unfold Bx.plain
    have h : Try.prog.eqGuardType Try.prog.depth 23 = false := by kernel_rfl
    simp [eqGuard, h]
  · have e : decide (a.cmp b = 0) = (a.kd == b.kd && (a.int == b.int && a.str.toList == b.str.toList)) := by
      rw [Bool.eq_iff_iff]
      simp only [decide_eq_true_eq, Bool.and_eq_true, beq_iff_eq]
      refine (bcmp_zero a b).trans ⟨fun h => by subst h; exact ⟨rfl, rfl, rfl⟩, fun ⟨h1, h2, h3⟩ => ?_⟩
      rw [← ofZ_id a, ← ofZ_id b, h1, h2, bytes_inj h3]
    rw [e]
    unfold Bx.plain
    go_simp
    by_cases h1 : a.kd = b.kd
    · by_cases h2 : a.int = b.int
      · by_cases h3 : a.str.toList = b.str.toList
        · simp [h1, h2, h3]
        · simp [h1, h2, h3]
      · simp [h1, h2]
    · simp [h1]
end Go.Proofs.Ytpbhjbdobpejpaa
