/- What single operations do, for tables of regions that draw their order; rows of entries. No condition. -/
import Derived.Test.YthglldnhffkefaaFreeS
import Derived.Test.YthglldnhffkefaaSWalkB
import Derived.Deep.MidRow
namespace Go.Free
open Go
/-- Values for slots that stand one behind the other. -/
def from_ : Nat → List Value → List (Tmp × Value)
  | _, [] => []
  | k, v :: r => (k, v) :: from_ (k + 1) r
theorem puts_from : ∀ (vs : List Value) (k : Nat) (a : Act), k + vs.length ≤ a.tmps.size → puts a (from_ k vs) = { a with tmps := (a.tmps.toList.take k ++ vs ++ a.tmps.toList.drop (k + vs.length)).toArray }
  | [], k, a, _ => by
    show a = _
    cases a
    simp
  | v :: r, k, a, h => by
    rw [List.length_cons] at h
    have ih := puts_from r (k + 1) (a.put (some k) v) (by rw [size_put]; omega)
    show puts (a.put (some k) v) (from_ (k + 1) r) = _
    rw [ih]
    obtain ⟨ts, ds⟩ := a
    simp only [Act.put, Array.toList_setIfInBounds, Act.mk.injEq, and_true] at h ⊢
    congr 1
    have hk : k < ts.toList.length := by rw [Array.length_toList]; omega
    rw [List.take_succ_eq_append_getElem (by rw [List.length_set]; exact hk), List.getElem_set_self, List.take_set_of_le (Nat.le_refl k), List.drop_set_of_lt (by omega), List.length_cons, show k + 1 + r.length = k + (r.length + 1) by omega]
    simp
end Go.Free
namespace Go.FreeX
open Go Go.Free
theorem puts_append (a : Act) (x y : List (Tmp × Value)) : puts a (x ++ y) = puts (puts a x) y := List.foldl_append
end Go.FreeX
namespace Go.FreeS
open Go Go.RowKit Go.Free Go.Op
section
variable {P : Program} {S : Nat → World → Prop} {oo : Option Oper} (o0 : Oper) (ho : oo = some o0)
include ho
theorem d_at {T : TypeId} {x i : Operand} (hop : o0.op = .indexAddr T x i) {vs vi v : Value} (h : ∀ w, (Instr.indexAt T vs vi).run P w = .ok v w) : Does P S oo [vs, vi] v .pure := by
  rintro o h1 ρ h2 w
  rw [ho] at h1
  cases h1
  rw [hop] at h2
  simp [Op.operands] at h2
  simp [execOp, hop, h2.1, h2.2, h]
theorem d_bin {op : BinOp} {T R : TypeId} {x y : Operand} (hop : o0.op = .binOp op T x y R) {vx vy v : Value} (h : ∀ xo yo w, (eqGuard op T xo yo vx vy).run P w = .ok () w ∧ (binOp op T vx vy).run P w = .ok v w) : Does P S oo [vx, vy] v .pure := by
  rintro o h1 ρ h2 w
  rw [ho] at h1
  cases h1
  rw [hop] at h2
  simp [Op.operands] at h2
  obtain ⟨g1, g2⟩ := h x y w
  simp [execOp, hop, h2.1, h2.2, g1, g2]
theorem d_len {T : TypeId} {x : Operand} (hop : o0.op = .call { callee := .builtin .len, args := #[x], argTypes := #[T] }) {vs v : Value} (h : ∀ ty w, (Builtin.len_ #[T] ty #[vs]).run P w = .ok v w) : Does P S oo [vs] v .pure := by
  rintro o h1 ρ h2 w
  rw [ho] at h1
  cases h1
  rw [hop] at h2
  have h3 : ρ x = vs := by simpa [Op.operands, Call.operands] using h2
  simp [execOp, hop, h3, resolve, invoke, builtin, h]
theorem d_load {T : TypeId} {x : Operand} (hop : o0.op = .load T x) {p v : Value} (h : ∀ w, S 0 w → (Instr.loadAt T p).run P w = .ok v w) : Does P S oo [p] v .read := by
  rintro o h1 ρ h2 w hS
  rw [ho] at h1
  cases h1
  rw [hop] at h2
  simp [Op.operands] at h2
  simp [execOp, hop, h2, h w hS]
theorem d_store {T : TypeId} {x y : Operand} (hop : o0.op = .store T x y) {p v : Value} {k : Nat} (h : ∀ w, S k w → ∃ w', (Instr.storeAt T p v).run P w = .ok () w' ∧ S (k + 1) w') : Does P S oo [p, v] undef (.put k) := by
  refine ⟨rfl, ?_⟩
  rintro o h1 ρ h2 w hS
  rw [ho] at h1
  cases h1
  rw [hop] at h2
  simp [Op.operands] at h2
  obtain ⟨w', g1, g2⟩ := h w hS
  exact ⟨w', by simp [execOp, hop, h2.1, h2.2, g1], g2⟩
theorem d_call1 {f : FuncId} {x a : Operand} {ts : Array TypeId} (hop : o0.op = .call { callee := .value x, args := #[a], argTypes := ts }) (he : ∀ zs w, (callFunc f zs).run P w = .ok (.enter f zs) w) {va v : Value}
    (h : ∀ w, S 0 w → Calls P f #[va] w fun e w' => e = .returned v ∧ S 0 w') : Does P S oo [.func (.func f) #[] #[], va] v (.call f [va]) := by
  rintro o h1 ρ h2 w hS
  rw [ho] at h1
  cases h1
  rw [hop] at h2
  have h3 : ρ x = .func (.func f) #[] #[] ∧ ρ a = va := by simpa [Op.operands, Call.operands] using h2
  have hcf := he #[va] w
  exact ⟨by simp [execOp, hop, resolve, h3.1, h3.2, invoke, go_sem, hcf], h w hS⟩
theorem d_call2 {f : FuncId} {x a b : Operand} {ts : Array TypeId} (hop : o0.op = .call { callee := .value x, args := #[a, b], argTypes := ts }) (he : ∀ zs w, (callFunc f zs).run P w = .ok (.enter f zs) w) {va vb v : Value}
    (h : ∀ w, S 0 w → Calls P f #[va, vb] w fun e w' => e = .returned v ∧ S 0 w') : Does P S oo [.func (.func f) #[] #[], va, vb] v (.call f [va, vb]) := by
  rintro o h1 ρ h2 w hS
  rw [ho] at h1
  cases h1
  rw [hop] at h2
  have h3 : ρ x = .func (.func f) #[] #[] ∧ ρ a = va ∧ ρ b = vb := by simpa [Op.operands, Call.operands] using h2
  have hcf := he #[va, vb] w
  exact ⟨by simp [execOp, hop, resolve, h3.1, h3.2.1, h3.2.2, invoke, go_sem, hcf], h w hS⟩
end
end Go.FreeS
namespace Go.Proofs.Ythglldnhffkefaa
open Go.RowKit Go.Op Go.Sort
set_option maxRecDepth 100000

theorem drew_size (W : World) : W.drew.heap.size = W.heap.size := rfl
theorem ret_any {a b : Bool} (h : a = b) : Ending.returned (.bool a) = .returned (.bool b) := by rw [h]
section
variable (xo yo : Operand) (w : World)
theorem cmp_gtr3 {a b : Int} {r : Bool} (h : decide (b < a) = r) : (eqGuard .gtr 3 xo yo (.int .i64 a) (.int .i64 b)).run Try.prog w = .ok () w ∧ (binOp .gtr 3 (.int .i64 a) (.int .i64 b)).run Try.prog w = .ok (.bool r) w :=
  ⟨by simp [eqGuard], by subst h; go_simp⟩
theorem cmp_lss3 {a b : Int} {r : Bool} (h : decide (a < b) = r) : (eqGuard .lss 3 xo yo (.int .i64 a) (.int .i64 b)).run Try.prog w = .ok () w ∧ (binOp .lss 3 (.int .i64 a) (.int .i64 b)).run Try.prog w = .ok (.bool r) w :=
  ⟨by simp [eqGuard], by subst h; go_simp⟩
theorem cmp_neq3 {a b : Int} {r : Bool} (h : (a != b) = r) : (eqGuard .neq 3 xo yo (.int .i64 a) (.int .i64 b)).run Try.prog w = .ok () w ∧ (binOp .neq 3 (.int .i64 a) (.int .i64 b)).run Try.prog w = .ok (.bool r) w :=
  ⟨by simp [eqGuard], by subst h; go_simp⟩
theorem cmp_eql3 {a b : Int} {r : Bool} (h : (a == b) = r) : (eqGuard .eql 3 xo yo (.int .i64 a) (.int .i64 b)).run Try.prog w = .ok () w ∧ (binOp .eql 3 (.int .i64 a) (.int .i64 b)).run Try.prog w = .ok (.bool r) w :=
  ⟨by simp [eqGuard], by subst h; go_simp⟩
theorem cmp_sub3 {a b r : Int} (h : a - b = r) (h0 : -9223372036854775808 ≤ r) (h1 : r ≤ 9223372036854775807) : (eqGuard .sub 3 xo yo (.int .i64 a) (.int .i64 b)).run Try.prog w = .ok () w ∧ (binOp .sub 3 (.int .i64 a) (.int .i64 b)).run Try.prog w = .ok (.int .i64 r) w :=
  ⟨by simp [eqGuard], by subst h; go_simp; rw [IntKind.wrap_i64]; omega⟩
theorem cmp_add3 {a b r : Int} (h : a + b = r) (h0 : -9223372036854775808 ≤ r) (h1 : r ≤ 9223372036854775807) : (eqGuard .add 3 xo yo (.int .i64 a) (.int .i64 b)).run Try.prog w = .ok () w ∧ (binOp .add 3 (.int .i64 a) (.int .i64 b)).run Try.prog w = .ok (.int .i64 r) w :=
  ⟨by simp [eqGuard], by subst h; go_simp; rw [IntKind.wrap_i64]; omega⟩
end
theorem at_25 (g n c k : Nat) (h : k < n) (w : World) : (Instr.indexAt 25 (.slice (some ⟨g, 0, none⟩) n c) (.int .i64 (k : Int))).run Try.prog w = .ok (.pointer (some ⟨g, k * 3, none⟩)) w := by
  have h1 : (k : Int) < (n : Int) := by omega
  go_simp
theorem size37 : (Try.prog.info? 37).map (·.size) = some 3 := by kernel_rfl
theorem at_range {p o : Nat} {s : En} {w : World} (h : EnAt w p o s) : w.rangeAt p o [.string s.key, .string s.val, .bool s.gone] := fun j v hj => by
  match j, hj with
  | 0, hj => cases hj; exact h.1
  | 1, hj => cases hj; exact h.2.1
  | 2, hj => cases hj; exact h.2.2
theorem load_37 {p o : Nat} {s : En} {w : World} (h : EnAt w p o s) : (Instr.loadAt 37 (.pointer (some ⟨p, o, none⟩))).run Try.prog w = .ok s.v w :=
  run_loadAt_mid w p o 37 _ _ (at_range h) Try.underlying37 rfl size37
theorem store_37 {g i : Nat} {s : En} (x : En) {w : World} (h : EnAt w g (i * 3) s ∧ w.frozen? ⟨g, i * 3, none⟩ = false ∧ w.frozen? ⟨g, i * 3 + 1, none⟩ = false ∧ w.frozen? ⟨g, i * 3 + 2, none⟩ = false) :
    (Instr.storeAt 37 (.pointer (some ⟨g, i * 3, none⟩)) x.v).run Try.prog w = .ok () (put3 w g i x) := by
  obtain ⟨⟨c1, c2, c3⟩, f1, f2, f3⟩ := h
  obtain ⟨k, v, gn⟩ := x
  unfold put3 En.v
  generalize i * 3 = o at *
  go_simp
theorem enter_27 (xs : Array Value) (w : World) : (callFunc 27 xs).run Try.prog w = .ok (.enter 27 xs) w := by kernel_rfl
end Go.Proofs.Ythglldnhffkefaa
