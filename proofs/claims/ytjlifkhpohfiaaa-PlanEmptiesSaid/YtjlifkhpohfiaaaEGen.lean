/- What single operations do: loads, comparisons, addresses, lengths; for tables of regions that draw their order. No condition. -/
import Derived.Test.YtjlifkhpohfiaaaEMath
import Derived.Deep.MidRow
namespace Go.Proofs.Ytjlifkhpohfiaaa
open Go.RowKit Go.Op
set_option maxRecDepth 100000

theorem load_3 {w : World} {p : Addr} {b : Int} (h : w.cell? p = some (.int .i64 b)) : (Instr.loadAt 3 (.pointer (some p))).run Try.prog w = .ok (.int .i64 b) w := by
  go_simp
theorem load_4 {w : World} {p : Addr} {b : Bool} (h : w.cell? p = some (.bool b)) : (Instr.loadAt 4 (.pointer (some p))).run Try.prog w = .ok (.bool b) w := by
  go_simp
theorem load_9 {w : World} {p : Addr} {s : ByteArray} (h : w.cell? p = some (.string s)) : (Instr.loadAt 9 (.pointer (some p))).run Try.prog w = .ok (.string s) w := by
  go_simp
theorem load_29 {w : World} {p : Addr} {a : Option Addr} {n c : Nat} (h : w.cell? p = some (.slice a n c)) : (Instr.loadAt 47 (.pointer (some p))).run Try.prog w = .ok (.slice a n c) w := by
  go_simp
theorem load_30 {w : World} {p : Addr} {a : Option Addr} {n c : Nat} (h : w.cell? p = some (.slice a n c)) : (Instr.loadAt 48 (.pointer (some p))).run Try.prog w = .ok (.slice a n c) w := by
  go_simp
theorem load_31 {w : World} {p : Addr} {a : Option Addr} {n c : Nat} (h : w.cell? p = some (.slice a n c)) : (Instr.loadAt 35 (.pointer (some p))).run Try.prog w = .ok (.slice a n c) w := by
  go_simp
theorem at_range {p o : Nat} {s : Sp} {w : World} (h : At p o s w) : w.rangeAt p o [.string s.lo, .string s.hi, .bool s.all] := fun j v hj => by
  match j, hj with
  | 0, hj => cases hj; exact h.1
  | 1, hj => cases hj; exact h.2.1
  | 2, hj => cases hj; exact h.2.2
theorem size28 : (Try.prog.info? 46).map (·.size) = some 3 := by kernel_rfl
theorem load_28 {p o : Nat} {s : Sp} {w : World} (h : At p o s w) : (Instr.loadAt 46 (.pointer (some ⟨p, o, none⟩))).run Try.prog w = .ok s.v w :=
  run_loadAt_mid w p o 46 _ _ (at_range h) Try.underlying46 rfl size28
section
variable (xo yo : Operand) (w : World)
theorem cmp_gtr3 {a b : Int} {r : Bool} (h : decide (b < a) = r) : (eqGuard .gtr 3 xo yo (.int .i64 a) (.int .i64 b)).run Try.prog w = .ok () w ∧ (binOp .gtr 3 (.int .i64 a) (.int .i64 b)).run Try.prog w = .ok (.bool r) w :=
  ⟨by simp [eqGuard], by subst h; go_simp⟩
theorem cmp_lss3 {a b : Int} {r : Bool} (h : decide (a < b) = r) : (eqGuard .lss 3 xo yo (.int .i64 a) (.int .i64 b)).run Try.prog w = .ok () w ∧ (binOp .lss 3 (.int .i64 a) (.int .i64 b)).run Try.prog w = .ok (.bool r) w :=
  ⟨by simp [eqGuard], by subst h; go_simp⟩
theorem cmp_geq3 {a b : Int} {r : Bool} (h : decide (b ≤ a) = r) : (eqGuard .geq 3 xo yo (.int .i64 a) (.int .i64 b)).run Try.prog w = .ok () w ∧ (binOp .geq 3 (.int .i64 a) (.int .i64 b)).run Try.prog w = .ok (.bool r) w :=
  ⟨by simp [eqGuard], by subst h; go_simp⟩
theorem cmp_eql3 {a b : Int} {r : Bool} (h : (a == b) = r) : (eqGuard .eql 3 xo yo (.int .i64 a) (.int .i64 b)).run Try.prog w = .ok () w ∧ (binOp .eql 3 (.int .i64 a) (.int .i64 b)).run Try.prog w = .ok (.bool r) w :=
  ⟨by simp [eqGuard], by subst h; go_simp⟩
theorem cmp_neq3 {a b : Int} {r : Bool} (h : (a != b) = r) : (eqGuard .neq 3 xo yo (.int .i64 a) (.int .i64 b)).run Try.prog w = .ok () w ∧ (binOp .neq 3 (.int .i64 a) (.int .i64 b)).run Try.prog w = .ok (.bool r) w :=
  ⟨by simp [eqGuard], by subst h; go_simp⟩
theorem cmp_sub3 {a b r : Int} (h : a - b = r) (h0 : -9223372036854775808 ≤ r) (h1 : r ≤ 9223372036854775807) : (eqGuard .sub 3 xo yo (.int .i64 a) (.int .i64 b)).run Try.prog w = .ok () w ∧ (binOp .sub 3 (.int .i64 a) (.int .i64 b)).run Try.prog w = .ok (.int .i64 r) w :=
  ⟨by simp [eqGuard], by subst h; go_simp; rw [IntKind.wrap_i64]; omega⟩
theorem cmp_geq9 {a b : ByteArray} {r : Bool} (h : (!lt a b) = r) : (eqGuard .geq 9 xo yo (.string a) (.string b)).run Try.prog w = .ok () w ∧ (binOp .geq 9 (.string a) (.string b)).run Try.prog w = .ok (.bool r) w :=
  ⟨by simp [eqGuard], by subst h; unfold lt; go_simp⟩
theorem cmp_lss9 {a b : ByteArray} {r : Bool} (h : lt a b = r) : (eqGuard .lss 9 xo yo (.string a) (.string b)).run Try.prog w = .ok () w ∧ (binOp .lss 9 (.string a) (.string b)).run Try.prog w = .ok (.bool r) w :=
  ⟨by simp [eqGuard], by subst h; unfold lt; go_simp⟩
theorem cmp_eql9 {a b : ByteArray} {r : Bool} (h : decide (a = b) = r) : (eqGuard .eql 9 xo yo (.string a) (.string b)).run Try.prog w = .ok () w ∧ (binOp .eql 9 (.string a) (.string b)).run Try.prog w = .ok (.bool r) w :=
  ⟨by simp [eqGuard], by subst h; rw [← same_text]; go_simp⟩
theorem cmp_neq9 {a b : ByteArray} {r : Bool} (h : decide (a ≠ b) = r) : (eqGuard .neq 9 xo yo (.string a) (.string b)).run Try.prog w = .ok () w ∧ (binOp .neq 9 (.string a) (.string b)).run Try.prog w = .ok (.bool r) w :=
  ⟨by simp [eqGuard], by
    have e : decide (a ≠ b) = !(a.toList == b.toList) := by rw [same_text, decide_not]
    rw [e] at h
    subst h
    go_simp⟩
theorem cmp_eql4 {a b r : Bool} (h : (a == b) = r) : (eqGuard .eql 4 xo yo (.bool a) (.bool b)).run Try.prog w = .ok () w ∧ (binOp .eql 4 (.bool a) (.bool b)).run Try.prog w = .ok (.bool r) w :=
  ⟨by simp [eqGuard], by subst h; go_simp⟩
theorem cmp_neq4 {a b r : Bool} (h : (a != b) = r) : (eqGuard .neq 4 xo yo (.bool a) (.bool b)).run Try.prog w = .ok () w ∧ (binOp .neq 4 (.bool a) (.bool b)).run Try.prog w = .ok (.bool r) w :=
  ⟨by simp [eqGuard], by subst h; go_simp; cases a <;> cases b <;> rfl⟩
theorem cmp_eql34 {a b : Int} {r : Bool} (h : (a == b) = r) : (eqGuard .eql 81 xo yo (.int .i64 a) (.int .i64 b)).run Try.prog w = .ok () w ∧ (binOp .eql 81 (.int .i64 a) (.int .i64 b)).run Try.prog w = .ok (.bool r) w :=
  ⟨by simp [eqGuard], by subst h; go_simp⟩
theorem cmp_neq34 {a b : Int} {r : Bool} (h : (a != b) = r) : (eqGuard .neq 81 xo yo (.int .i64 a) (.int .i64 b)).run Try.prog w = .ok () w ∧ (binOp .neq 81 (.int .i64 a) (.int .i64 b)).run Try.prog w = .ok (.bool r) w :=
  ⟨by simp [eqGuard], by subst h; go_simp⟩
theorem cmp_eql28 (s : Sp) : (eqGuard .eql 46 xo yo s.v s.v).run Try.prog w = .ok () w ∧ (binOp .eql 46 s.v s.v).run Try.prog w = .ok (.bool true) w := by
  unfold Sp.v
  constructor
  · have h : Try.prog.eqGuardType Try.prog.depth 46 = false := by kernel_rfl
    simp [eqGuard, h]
  · go_simp
end

/-- An address in a row, as an operation. -/
theorem gen_at {S : World → Prop} {oo : Option Oper} (o0 : Oper) (ho : oo = some o0) {T : TypeId} {x i : Operand} (hop : o0.op = .indexAddr T x i) {vs vi v : Value} (h : ∀ w, (Instr.indexAt T vs vi).run Try.prog w = .ok v w) :
    (Free.Ent.gen [vs, vi] v).Ok Try.prog S oo := by
  rintro o h1 ρ h2 w _
  rw [ho] at h1
  cases h1
  rw [hop] at h2
  simp [Op.operands] at h2
  simp [execOp, hop, h2.1, h2.2, h]
theorem gen_len {S : World → Prop} {oo : Option Oper} (o0 : Oper) (ho : oo = some o0) {T : TypeId} {x : Operand} (hop : o0.op = .call { callee := .builtin .len, args := #[x], argTypes := #[T] }) {vs v : Value} (h : ∀ ty w, (Builtin.len_ #[T] ty #[vs]).run Try.prog w = .ok v w) :
    (Free.Ent.gen [vs] v).Ok Try.prog S oo := by
  rintro o h1 ρ h2 w _
  rw [ho] at h1
  cases h1
  rw [hop] at h2
  have h3 : ρ x = vs := by simpa [Op.operands, Call.operands] using h2
  simp [execOp, hop, h3, resolve, invoke, builtin, h]
theorem len_29 (a : Option Addr) (n c : Nat) (ty : TypeId) (w : World) : (Builtin.len_ #[47] ty #[.slice a n c]).run Try.prog w = .ok (.int .i64 (n : Int)) w := by
  go_simp
theorem len_30 (a : Option Addr) (n c : Nat) (ty : TypeId) (w : World) : (Builtin.len_ #[48] ty #[.slice a n c]).run Try.prog w = .ok (.int .i64 (n : Int)) w := by
  go_simp
theorem len_31 (a : Option Addr) (n c : Nat) (ty : TypeId) (w : World) : (Builtin.len_ #[35] ty #[.slice a n c]).run Try.prog w = .ok (.int .i64 (n : Int)) w := by
  go_simp
theorem len_38 (a : Option Addr) (n c : Nat) (ty : TypeId) (w : World) : (Builtin.len_ #[72] ty #[.slice a n c]).run Try.prog w = .ok (.int .i64 (n : Int)) w := by
  go_simp
theorem len_9 (s : ByteArray) (ty : TypeId) (w : World) : (Builtin.len_ #[9] ty #[.string s]).run Try.prog w = .ok (.int .i64 (s.size : Int)) w := by
  go_simp
theorem at_38 (b o n c k : Nat) (h : k < n) (w : World) : (Instr.indexAt 72 (.slice (some ⟨b, o, none⟩) n c) (.int .i64 (k : Int))).run Try.prog w = .ok (.pointer (some ⟨b, o + k * 3, none⟩)) w := by
  have h1 : (k : Int) < (n : Int) := by omega
  go_simp
theorem at_29 (b o n c k : Nat) (h : k < n) (w : World) : (Instr.indexAt 47 (.slice (some ⟨b, o, none⟩) n c) (.int .i64 (k : Int))).run Try.prog w = .ok (.pointer (some ⟨b, o + k, none⟩)) w := by
  have h1 : (k : Int) < (n : Int) := by omega
  go_simp
theorem at_30 (b o n c k : Nat) (h : k < n) (w : World) : (Instr.indexAt 48 (.slice (some ⟨b, o, none⟩) n c) (.int .i64 (k : Int))).run Try.prog w = .ok (.pointer (some ⟨b, o + k, none⟩)) w := by
  have h1 : (k : Int) < (n : Int) := by omega
  go_simp
theorem cell_keep {B : Nat} {w1 w2 : World} {p : Addr} {v : Value} (hb : Below B w1 w2) (hp : p.block < B) (h : w1.cell? p = some v) : w2.cell? p = some v := by rw [hb.cell hp]; exact h
end Go.Proofs.Ytjlifkhpohfiaaa
