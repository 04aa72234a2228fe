/- What single operations do: loads, comparisons, addresses, lengths; for tables of regions that draw their order. No condition. -/
import Derived.Test.YtkapjijppjfmkaaEMath
import Derived.Deep.MidRow
namespace Go.Proofs.Ytkapjijppjfmkaa
open Go.RowKit Go.Op
set_option maxRecDepth 100000

theorem load_3 {w : World} {p : Addr} {b : Int} (h : w.cell? p = some (.int .i64 b)) : (Instr.loadAt 3 (.pointer (some p))).run Try.prog w = .ok (.int .i64 b) w := by
  go_simp
theorem load_4 {w : World} {p : Addr} {b : Bool} (h : w.cell? p = some (.bool b)) : (Instr.loadAt 4 (.pointer (some p))).run Try.prog w = .ok (.bool b) w := by
  go_simp
theorem load_9 {w : World} {p : Addr} {s : ByteArray} (h : w.cell? p = some (.string s)) : (Instr.loadAt 9 (.pointer (some p))).run Try.prog w = .ok (.string s) w := by
  go_simp
theorem load_24 {w : World} {p : Addr} {a : Option Addr} {n c : Nat} (h : w.cell? p = some (.slice a n c)) : (Instr.loadAt 24 (.pointer (some p))).run Try.prog w = .ok (.slice a n c) w := by
  go_simp
theorem load_29 {w : World} {p : Addr} {a : Option Addr} {n c : Nat} (h : w.cell? p = some (.slice a n c)) : (Instr.loadAt 29 (.pointer (some p))).run Try.prog w = .ok (.slice a n c) w := by
  go_simp
theorem load_30 {w : World} {p : Addr} {a : Option Addr} {n c : Nat} (h : w.cell? p = some (.slice a n c)) : (Instr.loadAt 30 (.pointer (some p))).run Try.prog w = .ok (.slice a n c) w := by
  go_simp
theorem load_31 {w : World} {p : Addr} {a : Option Addr} {n c : Nat} (h : w.cell? p = some (.slice a n c)) : (Instr.loadAt 31 (.pointer (some p))).run Try.prog w = .ok (.slice a n c) w := by
  go_simp
theorem at_range {p o : Nat} {s : Sp} {w : World} (h : At p o s w) : w.rangeAt p o [.string s.lo, .string s.hi, .bool s.all] := fun j v hj => by
  match j, hj with
  | 0, hj => cases hj; exact h.1
  | 1, hj => cases hj; exact h.2.1
  | 2, hj => cases hj; exact h.2.2
theorem size28 : (Try.prog.info? 28).map (·.size) = some 3 := by kernel_rfl
theorem size23 : (Try.prog.info? 23).map (·.size) = some 3 := by kernel_rfl
theorem load_28 {p o : Nat} {s : Sp} {w : World} (h : At p o s w) : (Instr.loadAt 28 (.pointer (some ⟨p, o, none⟩))).run Try.prog w = .ok s.v w :=
  run_loadAt_mid w p o 28 _ _ (at_range h) Try.underlying28 rfl size28
theorem load_23 {p o : Nat} {s : Sp} {w : World} (h : At p o s w) : (Instr.loadAt 23 (.pointer (some ⟨p, o, none⟩))).run Try.prog w = .ok s.v w :=
  run_loadAt_mid w p o 23 _ _ (at_range h) Try.underlying23 rfl size23

section
variable (xo yo : Operand) (w : World)
theorem cmp_gtr3 {a b : Int} {r : Bool} (h : decide (b < a) = r) : (eqGuard .gtr 3 xo yo (.int .i64 a) (.int .i64 b)).run Try.prog w = .ok () w ∧ (binOp .gtr 3 (.int .i64 a) (.int .i64 b)).run Try.prog w = .ok (.bool r) w :=
  ⟨by simp [eqGuard], by subst h; go_simp⟩
theorem cmp_lss3 {a b : Int} {r : Bool} (h : decide (a < b) = r) : (eqGuard .lss 3 xo yo (.int .i64 a) (.int .i64 b)).run Try.prog w = .ok () w ∧ (binOp .lss 3 (.int .i64 a) (.int .i64 b)).run Try.prog w = .ok (.bool r) w :=
  ⟨by simp [eqGuard], by subst h; go_simp⟩
theorem cmp_geq3 {a b : Int} {r : Bool} (h : decide (b ≤ a) = r) : (eqGuard .geq 3 xo yo (.int .i64 a) (.int .i64 b)).run Try.prog w = .ok () w ∧ (binOp .geq 3 (.int .i64 a) (.int .i64 b)).run Try.prog w = .ok (.bool r) w :=
  ⟨by simp [eqGuard], by subst h; go_simp⟩
theorem cmp_eql3 {a b : Int} {r : Bool} (h : (a == b) = r) : (eqGuard .eql 3 xo yo (.int .i64 a) (.int .i64 b)).run Try.prog w = .ok () w ∧ (binOp .eql 3 (.int .i64 a) (.int .i64 b)).run Try.prog w = .ok (.bool r) w :=
  ⟨by simp [eqGuard], by subst h; go_simp⟩
theorem cmp_neq3 {a b : Int} {r : Bool} (h : (a != b) = r) : (eqGuard .neq 3 xo yo (.int .i64 a) (.int .i64 b)).run Try.prog w = .ok () w ∧ (binOp .neq 3 (.int .i64 a) (.int .i64 b)).run Try.prog w = .ok (.bool r) w :=
  ⟨by simp [eqGuard], by subst h; go_simp⟩
theorem cmp_sub3 {a b r : Int} (h : a - b = r) (h0 : -9223372036854775808 ≤ r) (h1 : r ≤ 9223372036854775807) : (eqGuard .sub 3 xo yo (.int .i64 a) (.int .i64 b)).run Try.prog w = .ok () w ∧ (binOp .sub 3 (.int .i64 a) (.int .i64 b)).run Try.prog w = .ok (.int .i64 r) w :=
  ⟨by simp [eqGuard], by subst h; go_simp; rw [IntKind.wrap_i64]; omega⟩
theorem cmp_geq9 {a b : ByteArray} {r : Bool} (h : (!lt a b) = r) : (eqGuard .geq 9 xo yo (.string a) (.string b)).run Try.prog w = .ok () w ∧ (binOp .geq 9 (.string a) (.string b)).run Try.prog w = .ok (.bool r) w :=
  ⟨by simp [eqGuard], by subst h; unfold lt; go_simp⟩
theorem cmp_lss9 {a b : ByteArray} {r : Bool} (h : lt a b = r) : (eqGuard .lss 9 xo yo (.string a) (.string b)).run Try.prog w = .ok () w ∧ (binOp .lss 9 (.string a) (.string b)).run Try.prog w = .ok (.bool r) w :=
  ⟨by simp [eqGuard], by subst h; unfold lt; go_simp⟩
theorem cmp_eql9 {a b : ByteArray} {r : Bool} (h : decide (a = b) = r) : (eqGuard .eql 9 xo yo (.string a) (.string b)).run Try.prog w = .ok () w ∧ (binOp .eql 9 (.string a) (.string b)).run Try.prog w = .ok (.bool r) w :=
  ⟨by simp [eqGuard], by subst h; rw [← same_text]; go_simp⟩
theorem cmp_neq9 {a b : ByteArray} {r : Bool} (h : decide (a ≠ b) = r) : (eqGuard .neq 9 xo yo (.string a) (.string b)).run Try.prog w = .ok () w ∧ (binOp .neq 9 (.string a) (.string b)).run Try.prog w = .ok (.bool r) w :=
  ⟨by simp [eqGuard], by
    have e : decide (a ≠ b) = !(a.toList == b.toList) := by rw [same_text, decide_not]
    rw [e] at h
    subst h
    go_simp⟩
theorem cmp_eql4 {a b r : Bool} (h : (a == b) = r) : (eqGuard .eql 4 xo yo (.bool a) (.bool b)).run Try.prog w = .ok () w ∧ (binOp .eql 4 (.bool a) (.bool b)).run Try.prog w = .ok (.bool r) w :=
  ⟨by simp [eqGuard], by subst h; go_simp⟩
theorem cmp_neq4 {a b r : Bool} (h : (a != b) = r) : (eqGuard .neq 4 xo yo (.bool a) (.bool b)).run Try.prog w = .ok () w ∧ (binOp .neq 4 (.bool a) (.bool b)).run Try.prog w = .ok (.bool r) w :=
  ⟨by simp [eqGuard], by subst h; go_simp; cases a <;> cases b <;> rfl⟩
theorem cmp_eql34 {a b : Int} {r : Bool} (h : (a == b) = r) : (eqGuard .eql 34 xo yo (.int .i64 a) (.int .i64 b)).run Try.prog w = .ok () w ∧ (binOp .eql 34 (.int .i64 a) (.int .i64 b)).run Try.prog w = .ok (.bool r) w :=
  ⟨by simp [eqGuard], by subst h; go_simp⟩
theorem cmp_neq34 {a b : Int} {r : Bool} (h : (a != b) = r) : (eqGuard .neq 34 xo yo (.int .i64 a) (.int .i64 b)).run Try.prog w = .ok () w ∧ (binOp .neq 34 (.int .i64 a) (.int .i64 b)).run Try.prog w = .ok (.bool r) w :=
  ⟨by simp [eqGuard], by subst h; go_simp⟩
theorem cmp_neq23 (s : Sp) : (eqGuard .neq 23 xo yo s.v s.v).run Try.prog w = .ok () w ∧ (binOp .neq 23 s.v s.v).run Try.prog w = .ok (.bool false) w := by
  unfold Sp.v
  constructor
  · have h : Try.prog.eqGuardType Try.prog.depth 23 = false := by kernel_rfl
    simp [eqGuard, h]
  · go_simp
theorem cmp_eql28 (s : Sp) : (eqGuard .eql 28 xo yo s.v s.v).run Try.prog w = .ok () w ∧ (binOp .eql 28 s.v s.v).run Try.prog w = .ok (.bool true) w := by
  unfold Sp.v
  constructor
  · have h : Try.prog.eqGuardType Try.prog.depth 28 = false := by kernel_rfl
    simp [eqGuard, h]
  · go_simp
end

/-- An address in a row, as an operation. -/
theorem gen_at {S : World → Prop} {oo : Option Oper} (o0 : Oper) (ho : oo = some o0) {T : TypeId} {x i : Operand} (hop : o0.op = .indexAddr T x i) {vs vi v : Value} (h : ∀ w, (Instr.indexAt T vs vi).run Try.prog w = .ok v w) :
    (Free.Ent.gen [vs, vi] v).Ok Try.prog S oo := by
  rintro o h1 ρ h2 w _
  rw [ho] at h1
  cases h1
  rw [hop] at h2
  simp [Op.operands] at h2
  simp [execOp, hop, h2.1, h2.2, h]
theorem gen_len {S : World → Prop} {oo : Option Oper} (o0 : Oper) (ho : oo = some o0) {T : TypeId} {x : Operand} (hop : o0.op = .call { callee := .builtin .len, args := #[x], argTypes := #[T] }) {vs v : Value} (h : ∀ ty w, (Builtin.len_ #[T] ty #[vs]).run Try.prog w = .ok v w) :
    (Free.Ent.gen [vs] v).Ok Try.prog S oo := by
  rintro o h1 ρ h2 w _
  rw [ho] at h1
  cases h1
  rw [hop] at h2
  have h3 : ρ x = vs := by simpa [Op.operands, Call.operands] using h2
  simp [execOp, hop, h3, resolve, invoke, builtin, h]
theorem len_24 (a : Option Addr) (n c : Nat) (ty : TypeId) (w : World) : (Builtin.len_ #[24] ty #[.slice a n c]).run Try.prog w = .ok (.int .i64 (n : Int)) w := by
  go_simp
theorem len_29 (a : Option Addr) (n c : Nat) (ty : TypeId) (w : World) : (Builtin.len_ #[29] ty #[.slice a n c]).run Try.prog w = .ok (.int .i64 (n : Int)) w := by
  go_simp
theorem len_30 (a : Option Addr) (n c : Nat) (ty : TypeId) (w : World) : (Builtin.len_ #[30] ty #[.slice a n c]).run Try.prog w = .ok (.int .i64 (n : Int)) w := by
  go_simp
theorem len_31 (a : Option Addr) (n c : Nat) (ty : TypeId) (w : World) : (Builtin.len_ #[31] ty #[.slice a n c]).run Try.prog w = .ok (.int .i64 (n : Int)) w := by
  go_simp
theorem len_38 (a : Option Addr) (n c : Nat) (ty : TypeId) (w : World) : (Builtin.len_ #[38] ty #[.slice a n c]).run Try.prog w = .ok (.int .i64 (n : Int)) w := by
  go_simp
theorem len_51 (a : Option Addr) (n c : Nat) (ty : TypeId) (w : World) : (Builtin.len_ #[51] ty #[.slice a n c]).run Try.prog w = .ok (.int .i64 (n : Int)) w := by
  go_simp
theorem len_53 (a : Option Addr) (n c : Nat) (ty : TypeId) (w : World) : (Builtin.len_ #[53] ty #[.slice a n c]).run Try.prog w = .ok (.int .i64 (n : Int)) w := by
  go_simp
theorem len_9 (s : ByteArray) (ty : TypeId) (w : World) : (Builtin.len_ #[9] ty #[.string s]).run Try.prog w = .ok (.int .i64 (s.size : Int)) w := by
  go_simp
theorem at_24 (b o n c k : Nat) (h : k < n) (w : World) : (Instr.indexAt 24 (.slice (some ⟨b, o, none⟩) n c) (.int .i64 (k : Int))).run Try.prog w = .ok (.pointer (some ⟨b, o + k * 3, none⟩)) w := by
  have h1 : (k : Int) < (n : Int) := by omega
  go_simp
theorem at_38 (b o n c k : Nat) (h : k < n) (w : World) : (Instr.indexAt 38 (.slice (some ⟨b, o, none⟩) n c) (.int .i64 (k : Int))).run Try.prog w = .ok (.pointer (some ⟨b, o + k * 3, none⟩)) w := by
  have h1 : (k : Int) < (n : Int) := by omega
  go_simp
theorem at_29 (b o n c k : Nat) (h : k < n) (w : World) : (Instr.indexAt 29 (.slice (some ⟨b, o, none⟩) n c) (.int .i64 (k : Int))).run Try.prog w = .ok (.pointer (some ⟨b, o + k, none⟩)) w := by
  have h1 : (k : Int) < (n : Int) := by omega
  go_simp
theorem at_30 (b o n c k : Nat) (h : k < n) (w : World) : (Instr.indexAt 30 (.slice (some ⟨b, o, none⟩) n c) (.int .i64 (k : Int))).run Try.prog w = .ok (.pointer (some ⟨b, o + k, none⟩)) w := by
  have h1 : (k : Int) < (n : Int) := by omega
  go_simp
theorem at_51 (b o n c k : Nat) (h : k < n) (w : World) : (Instr.indexAt 51 (.slice (some ⟨b, o, none⟩) n c) (.int .i64 (k : Int))).run Try.prog w = .ok (.pointer (some ⟨b, o + k * 2, none⟩)) w := by
  have h1 : (k : Int) < (n : Int) := by omega
  go_simp
theorem at_53 (b o n c k : Nat) (h : k < n) (w : World) : (Instr.indexAt 53 (.slice (some ⟨b, o, none⟩) n c) (.int .i64 (k : Int))).run Try.prog w = .ok (.pointer (some ⟨b, o + k * 2, none⟩)) w := by
  have h1 : (k : Int) < (n : Int) := by omega
  go_simp
theorem cell_keep {B : Nat} {w1 w2 : World} {p : Addr} {v : Value} (hb : Below B w1 w2) (hp : p.block < B) (h : w1.cell? p = some v) : w2.cell? p = some v := by rw [hb.cell hp]; exact h
end Go.Proofs.Ytkapjijppjfmkaa
namespace Go.Free
open Go
/-- Values for slots that stand one behind the other. -/
def from_ : Nat → List Value → List (Tmp × Value)
  | _, [] => []
  | k, v :: r => (k, v) :: from_ (k + 1) r
theorem puts_from : ∀ (vs : List Value) (k : Nat) (a : Act), k + vs.length ≤ a.tmps.size → puts a (from_ k vs) = { a with tmps := (a.tmps.toList.take k ++ vs ++ a.tmps.toList.drop (k + vs.length)).toArray }
  | [], k, a, _ => by
    show a = _
    cases a
    simp
  | v :: r, k, a, h => by
    rw [List.length_cons] at h
    have ih := puts_from r (k + 1) (a.put (some k) v) (by rw [size_put]; omega)
    show puts (a.put (some k) v) (from_ (k + 1) r) = _
    rw [ih]
    obtain ⟨ts, ds⟩ := a
    simp only [Act.put, Array.toList_setIfInBounds, Act.mk.injEq, and_true] at h ⊢
    congr 1
    have hk : k < ts.toList.length := by rw [Array.length_toList]; omega
    rw [List.take_succ_eq_append_getElem (by rw [List.length_set]; exact hk), List.getElem_set_self, List.take_set_of_le (Nat.le_refl k), List.drop_set_of_lt (by omega), List.length_cons, show k + 1 + r.length = k + (r.length + 1) by omega]
    simp
end Go.Free
