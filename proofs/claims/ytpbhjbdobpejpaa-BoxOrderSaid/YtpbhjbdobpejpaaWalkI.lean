/- What loads and comparisons yield, as a table for a region that draws its order. No condition. -/
import Derived.Test.YtpbhjbdobpejpaaWalkG
import Derived.Test.YtpbhjbdobpejpaaTakes
namespace Go.Proofs.Ytpbhjbdobpejpaa
open Go.RowKit Go.Op
theorem load_27 {w : World} {p : Addr} {b : Bx} (h : w.cell? p = some b.v) : (Instr.loadAt 27 (.pointer (some p))).run Try.prog w = .ok (.agg #[b.v]) w := by
  go_simp
theorem load_3 {w : World} {p : Addr} {v : Value} (h : w.cell? p = some v) : (Instr.loadAt 3 (.pointer (some p))).run Try.prog w = .ok v w := by
  go_simp
theorem load_9 {w : World} {p : Addr} {v : Value} (h : w.cell? p = some v) : (Instr.loadAt 9 (.pointer (some p))).run Try.prog w = .ok v w := by
  go_simp
theorem cmp_ee (xo yo : Operand) (w : World) : (eqGuard .eql 9 xo yo (.string ⟨#[]⟩) (.string ⟨#[]⟩)).run Try.prog w = .ok () w ∧ (binOp .eql 9 (.string ⟨#[]⟩) (.string ⟨#[]⟩)).run Try.prog w = .ok (.bool true) w :=
  ⟨by simp [eqGuard], by go_simp⟩
theorem cmp_same (t : ByteArray) (xo yo : Operand) (w : World) : (eqGuard .eql 9 xo yo (.string t) (.string t)).run Try.prog w = .ok () w ∧ (binOp .eql 9 (.string t) (.string t)).run Try.prog w = .ok (.bool true) w :=
  ⟨by simp [eqGuard], by go_simp⟩
theorem cmp_et {t : ByteArray} {b : Bool} (ht : t.toList.isEmpty = b) (xo yo : Operand) (w : World) : (eqGuard .eql 9 xo yo (.string ⟨#[]⟩) (.string t)).run Try.prog w = .ok () w ∧ (binOp .eql 9 (.string ⟨#[]⟩) (.string t)).run Try.prog w = .ok (.bool b) w :=
  ⟨by simp [eqGuard], by subst ht; go_simp⟩
theorem cmp_int (m : Int) (xo yo : Operand) (w : World) : (eqGuard .eql 3 xo yo (.int .i64 m) (.int .i64 m)).run Try.prog w = .ok () w ∧ (binOp .eql 3 (.int .i64 m) (.int .i64 m)).run Try.prog w = .ok (.bool true) w :=
  ⟨by simp [eqGuard], by go_simp⟩
end Go.Proofs.Ytpbhjbdobpejpaa
