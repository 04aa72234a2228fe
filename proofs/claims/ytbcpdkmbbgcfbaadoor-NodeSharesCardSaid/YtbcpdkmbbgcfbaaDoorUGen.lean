/- What single operations do, for FreeU's tables: calls among them. No condition. -/
import Derived.Test.YtbcpdkmbbgcfbaaDoorFreeU
namespace Go.Free
open Go
/-- Values for slots that stand one behind the other. -/
def from_ : Nat → List Value → List (Tmp × Value)
  | _, [] => []
  | k, v :: r => (k, v) :: from_ (k + 1) r
theorem puts_from : ∀ (vs : List Value) (k : Nat) (a : Act), k + vs.length ≤ a.tmps.size → puts a (from_ k vs) = { a with tmps := (a.tmps.toList.take k ++ vs ++ a.tmps.toList.drop (k + vs.length)).toArray }
  | [], k, a, _ => by
    show a = _
    cases a
    simp
  | v :: r, k, a, h => by
    rw [List.length_cons] at h
    have ih := puts_from r (k + 1) (a.put (some k) v) (by rw [size_put]; omega)
    show puts (a.put (some k) v) (from_ (k + 1) r) = _
    rw [ih]
    obtain ⟨ts, ds⟩ := a
    simp only [Act.put, Array.toList_setIfInBounds, Act.mk.injEq, and_true] at h ⊢
    congr 1
    have hk : k < ts.toList.length := by rw [Array.length_toList]; omega
    rw [List.take_succ_eq_append_getElem (by rw [List.length_set]; exact hk), List.getElem_set_self, List.take_set_of_le (Nat.le_refl k), List.drop_set_of_lt (by omega), List.length_cons, show k + 1 + r.length = k + (r.length + 1) by omega]
    simp
end Go.Free
namespace Go.FreeX
open Go Go.Free
theorem puts_append (a : Act) (x y : List (Tmp × Value)) : puts a (x ++ y) = puts (puts a x) y := List.foldl_append
end Go.FreeX
namespace Go.FreeU
open Go Go.RowKit Go.Free Go.Op
section
variable {P : Program} {effs : List Nat} {ops : Array Oper} {S : List Bool → (Nat → Value) → World → Prop} {i : Nat} (o0 : Oper) (ho : ops[i]? = some o0)
include ho
theorem d_at {T : TypeId} {x y : Operand} (hop : o0.op = .indexAddr T x y) {vs vi v : (Nat → Value) → Value} (h : ∀ β w, (Instr.indexAt T (vs β) (vi β)).run P w = .ok (v β) w) : Does P effs ops S ⟨i, fun β => [vs β, vi β], v, .pure⟩ := by
  rintro o h1 β ρ h2 w
  rw [ho] at h1
  cases h1
  rw [hop] at h2
  simp [Op.operands] at h2
  simp [execOp, hop, h2.1, h2.2, h]
theorem d_bin {op : BinOp} {T R : TypeId} {x y : Operand} (hop : o0.op = .binOp op T x y R) {vx vy v : (Nat → Value) → Value} (h : ∀ β xo yo w, (eqGuard op T xo yo (vx β) (vy β)).run P w = .ok () w ∧ (binOp op T (vx β) (vy β)).run P w = .ok (v β) w) : Does P effs ops S ⟨i, fun β => [vx β, vy β], v, .pure⟩ := by
  rintro o h1 β ρ h2 w
  rw [ho] at h1
  cases h1
  rw [hop] at h2
  simp [Op.operands] at h2
  obtain ⟨g1, g2⟩ := h β x y w
  simp [execOp, hop, h2.1, h2.2, g1, g2]
theorem d_hi {T : TypeId} {x y : Operand} (hop : o0.op = .slice T x none (some y) none) {vx vy v : (Nat → Value) → Value} (h : ∀ β w, (Instr.sliceAt T (vx β) none (some (vy β)) none).run P w = .ok (v β) w) : Does P effs ops S ⟨i, fun β => [vx β, vy β], v, .pure⟩ := by
  rintro o h1 β ρ h2 w
  rw [ho] at h1
  cases h1
  rw [hop] at h2
  simp [Op.operands] at h2
  simp [execOp, hop, h2.1, h2.2, h]
theorem d_lo {T : TypeId} {x y : Operand} (hop : o0.op = .slice T x (some y) none none) {vx vy v : (Nat → Value) → Value} (h : ∀ β w, (Instr.sliceAt T (vx β) (some (vy β)) none none).run P w = .ok (v β) w) : Does P effs ops S ⟨i, fun β => [vx β, vy β], v, .pure⟩ := by
  rintro o h1 β ρ h2 w
  rw [ho] at h1
  cases h1
  rw [hop] at h2
  simp [Op.operands] at h2
  simp [execOp, hop, h2.1, h2.2, h]
theorem d_load {T : TypeId} {x : Operand} (hop : o0.op = .load T x) {p v : (Nat → Value) → Value} (h : ∀ β bs w, S bs β w → Due ops effs i bs → (Instr.loadAt T (p β)).run P w = .ok (v β) w) : Does P effs ops S ⟨i, fun β => [p β], v, .read⟩ := by
  rintro o h1 β ρ h2 bs w hS hD
  rw [ho] at h1
  cases h1
  rw [hop] at h2
  simp [Op.operands] at h2
  simp [execOp, hop, h2, h β bs w hS hD]
theorem d_row0 {T : TypeId} (hop : o0.op = .buildSlice T 0 #[]) (p : Nat) (hp : effs[p]? = some i) (h : ∀ β bs w, S bs β w → Due ops effs i bs → ∃ u w', (Instr.buildSlice T 0 #[]).run P w = .ok u w' ∧ S (bs.set p true) (upd β i u) w') : Does P effs ops S ⟨i, fun _ => [], fun β => β i, .eff⟩ := by
  refine ⟨fun β u => upd_same i u, p, hp, ?_⟩
  rintro o h1 β ρ _ bs w hS hD
  rw [ho] at h1
  cases h1
  obtain ⟨u, w', g1, g2⟩ := h β bs w hS hD
  exact ⟨u, w', by simp [execOp, hop, g1], g2⟩
theorem d_row1 {T : TypeId} {x : Operand} (hop : o0.op = .buildSlice T 1 #[(0, x)]) (p : Nat) (hp : effs[p]? = some i) {vx : (Nat → Value) → Value} (h : ∀ β bs w, S bs β w → Due ops effs i bs → ∃ u w', (Instr.buildSlice T 1 #[(0, vx β)]).run P w = .ok u w' ∧ S (bs.set p true) (upd β i u) w') : Does P effs ops S ⟨i, fun β => [vx β], fun β => β i, .eff⟩ := by
  refine ⟨fun β u => upd_same i u, p, hp, ?_⟩
  rintro o h1 β ρ h2 bs w hS hD
  rw [ho] at h1
  cases h1
  rw [hop] at h2
  simp [Op.operands] at h2
  obtain ⟨u, w', g1, g2⟩ := h β bs w hS hD
  exact ⟨u, w', by simp [execOp, hop, h2, g1], g2⟩
theorem d_app {T : TypeId} {x y : Operand} (hop : o0.op = .call { callee := .builtin .append, args := #[x, y], argTypes := #[T, T] }) (p : Nat) (hp : effs[p]? = some i) {vx vy : (Nat → Value) → Value} (h : ∀ β bs ty w, S bs β w → Due ops effs i bs → ∃ u w', (Builtin.append_ #[T, T] ty #[vx β, vy β]).run P w = .ok u w' ∧ S (bs.set p true) (upd β i u) w') : Does P effs ops S ⟨i, fun β => [vx β, vy β], fun β => β i, .eff⟩ := by
  refine ⟨fun β u => upd_same i u, p, hp, ?_⟩
  rintro o h1 β ρ h2 bs w hS hD
  rw [ho] at h1
  cases h1
  rw [hop] at h2
  have h3 : ρ x = vx β ∧ ρ y = vy β := by simpa [Op.operands, Call.operands] using h2
  obtain ⟨u, w', g1, g2⟩ := h β bs o0.type w hS hD
  exact ⟨u, w', by simp [execOp, hop, h3.1, h3.2, resolve, invoke, builtin, g1], g2⟩
theorem d_len {T : TypeId} {x : Operand} (hop : o0.op = .call { callee := .builtin .len, args := #[x], argTypes := #[T] }) {vs v : (Nat → Value) → Value} (h : ∀ β ty w, (Builtin.len_ #[T] ty #[vs β]).run P w = .ok (v β) w) : Does P effs ops S ⟨i, fun β => [vs β], v, .pure⟩ := by
  rintro o h1 β ρ h2 w
  rw [ho] at h1
  cases h1
  rw [hop] at h2
  have h3 : ρ x = vs β := by simpa [Op.operands, Call.operands] using h2
  simp [execOp, hop, h3, resolve, invoke, builtin, h]
theorem d_row3 {T : TypeId} {x y z : Operand} (hop : o0.op = .buildSlice T 3 #[(0, x), (1, y), (2, z)]) (p : Nat) (hp : effs[p]? = some i) {vx vy vz : (Nat → Value) → Value} (h : ∀ β bs w, S bs β w → Due ops effs i bs → ∃ u w', (Instr.buildSlice T 3 #[(0, vx β), (1, vy β), (2, vz β)]).run P w = .ok u w' ∧ S (bs.set p true) (upd β i u) w') : Does P effs ops S ⟨i, fun β => [vx β, vy β, vz β], fun β => β i, .eff⟩ := by
  refine ⟨fun β u => upd_same i u, p, hp, ?_⟩
  rintro o h1 β ρ h2 bs w hS hd
  rw [ho] at h1
  cases h1
  rw [hop] at h2
  simp [Op.operands] at h2
  obtain ⟨u, w', g1, g2⟩ := h β bs w hS hd
  exact ⟨u, w', by simp [execOp, hop, h2.1, h2.2.1, h2.2.2, g1], g2⟩
theorem d_ask1 {f : FuncId} {x a : Operand} {ts : Array TypeId} (hop : o0.op = .call { callee := .value x, args := #[a], argTypes := ts }) (he : ∀ zs w, (callFunc f zs).run P w = .ok (.enter f zs) w) {va v : (Nat → Value) → Value}
    (h : ∀ β bs w, S bs β w → Due ops effs i bs → Calls P f #[va β] w fun e w' => e = .returned (v β) ∧ S bs β w') : Does P effs ops S ⟨i, fun β => [.func (.func f) #[] #[], va β], v, .ask⟩ := by
  rintro o h1 β ρ h2 bs w hS hd
  rw [ho] at h1
  cases h1
  rw [hop] at h2
  have h3 : ρ x = .func (.func f) #[] #[] ∧ ρ a = va β := by simpa [Op.operands, Call.operands] using h2
  have hcf := he #[va β] w
  exact ⟨f, _, by simp [execOp, hop, resolve, h3.1, h3.2, invoke, go_sem, hcf], h β bs w hS hd⟩
theorem d_ask2 {f : FuncId} {x a b : Operand} {ts : Array TypeId} (hop : o0.op = .call { callee := .value x, args := #[a, b], argTypes := ts }) (he : ∀ zs w, (callFunc f zs).run P w = .ok (.enter f zs) w) {va vb v : (Nat → Value) → Value}
    (h : ∀ β bs w, S bs β w → Due ops effs i bs → Calls P f #[va β, vb β] w fun e w' => e = .returned (v β) ∧ S bs β w') : Does P effs ops S ⟨i, fun β => [.func (.func f) #[] #[], va β, vb β], v, .ask⟩ := by
  rintro o h1 β ρ h2 bs w hS hd
  rw [ho] at h1
  cases h1
  rw [hop] at h2
  have h3 : ρ x = .func (.func f) #[] #[] ∧ ρ a = va β ∧ ρ b = vb β := by simpa [Op.operands, Call.operands] using h2
  have hcf := he #[va β, vb β] w
  exact ⟨f, _, by simp [execOp, hop, resolve, h3.1, h3.2.1, h3.2.2, invoke, go_sem, hcf], h β bs w hS hd⟩
theorem d_get2 {f : FuncId} {x a b : Operand} {ts : Array TypeId} (hop : o0.op = .call { callee := .value x, args := #[a, b], argTypes := ts }) (he : ∀ zs w, (callFunc f zs).run P w = .ok (.enter f zs) w) (p : Nat) (hp : effs[p]? = some i) {va vb : (Nat → Value) → Value}
    (h : ∀ β bs w, S bs β w → Due ops effs i bs → Calls P f #[va β, vb β] w fun e w' => ∃ u, e = .returned u ∧ S (bs.set p true) (upd β i u) w') : Does P effs ops S ⟨i, fun β => [.func (.func f) #[] #[], va β, vb β], fun β => β i, .get⟩ := by
  refine ⟨fun β u => upd_same i u, p, hp, ?_⟩
  rintro o h1 β ρ h2 bs w hS hd
  rw [ho] at h1
  cases h1
  rw [hop] at h2
  have h3 : ρ x = .func (.func f) #[] #[] ∧ ρ a = va β ∧ ρ b = vb β := by simpa [Op.operands, Call.operands] using h2
  have hcf := he #[va β, vb β] w
  exact ⟨f, _, by simp [execOp, hop, resolve, h3.1, h3.2.1, h3.2.2, invoke, go_sem, hcf], h β bs w hS hd⟩
theorem d_nil {x : Operand} (hop : o0.op = .nilCheck x) {a : Addr} : Does P effs ops S ⟨i, fun _ => [.pointer (some a)], fun _ => .pointer (some a), .pure⟩ := by
  rintro o h1 β ρ h2 w
  rw [ho] at h1
  cases h1
  rw [hop] at h2
  simp [Op.operands] at h2
  simp [execOp, hop, h2, go_sem]
theorem d_make {T : TypeId} {x y : Operand} (hop : o0.op = .makeSlice T x y) (p : Nat) (hp : effs[p]? = some i) {vx vy : (Nat → Value) → Value} (h : ∀ β bs w, S bs β w → Due ops effs i bs → ∃ u w', (Instr.makeSlice T (vx β) (vy β)).run P w = .ok u w' ∧ S (bs.set p true) (upd β i u) w') : Does P effs ops S ⟨i, fun β => [vx β, vy β], fun β => β i, .eff⟩ := by
  refine ⟨fun β u => upd_same i u, p, hp, ?_⟩
  rintro o h1 β ρ h2 bs w hS hd
  rw [ho] at h1
  cases h1
  rw [hop] at h2
  simp [Op.operands] at h2
  obtain ⟨u, w', g1, g2⟩ := h β bs w hS hd
  exact ⟨u, w', by simp [execOp, hop, h2.1, h2.2, g1], g2⟩
theorem d_box {T : TypeId} {x : Operand} (hop : o0.op = .box T x) (p : Nat) (hp : effs[p]? = some i) {vx : (Nat → Value) → Value} (h : ∀ β bs w, S bs β w → Due ops effs i bs → ∃ u w', (Instr.box T (vx β)).run P w = .ok u w' ∧ S (bs.set p true) (upd β i u) w') : Does P effs ops S ⟨i, fun β => [vx β], fun β => β i, .eff⟩ := by
  refine ⟨fun β u => upd_same i u, p, hp, ?_⟩
  rintro o h1 β ρ h2 bs w hS hd
  rw [ho] at h1
  cases h1
  rw [hop] at h2
  simp [Op.operands] at h2
  obtain ⟨u, w', g1, g2⟩ := h β bs w hS hd
  exact ⟨u, w', by simp [execOp, hop, h2, g1], g2⟩
theorem d_alloc {T : TypeId} (hop : o0.op = .alloc T) (p : Nat) (hp : effs[p]? = some i) (h : ∀ β bs w, S bs β w → Due ops effs i bs → ∃ u w', (Instr.alloc T true (.tuple #[])).run P w = .ok u w' ∧ S (bs.set p true) (upd β i u) w') : Does P effs ops S ⟨i, fun _ => [], fun β => β i, .eff⟩ := by
  refine ⟨fun β u => upd_same i u, p, hp, ?_⟩
  rintro o h1 β ρ _ bs w hS hd
  rw [ho] at h1
  cases h1
  obtain ⟨u, w', g1, g2⟩ := h β bs w hS hd
  exact ⟨u, w', by simp [execOp, hop, g1], g2⟩
theorem d_build2 {T : TypeId} {x y : Operand} {k l : Nat} (hop : o0.op = .build T #[(k, x), (l, y)]) {vx vy v : (Nat → Value) → Value} (h : ∀ β w, (Instr.build T #[(k, vx β), (l, vy β)]).run P w = .ok (v β) w) : Does P effs ops S ⟨i, fun β => [vx β, vy β], v, .pure⟩ := by
  rintro o h1 β ρ h2 w
  rw [ho] at h1
  cases h1
  rw [hop] at h2
  simp [Op.operands] at h2
  simp [execOp, hop, h2.1, h2.2, h]
theorem d_binc {op : BinOp} {T R : TypeId} {x : Operand} {c : Value} (hop : o0.op = .binOp op T x (.const c) R) {vx v : (Nat → Value) → Value} (h : ∀ β xo w, (eqGuard op T xo (.const c) (vx β) c).run P w = .ok () w ∧ (binOp op T (vx β) c).run P w = .ok (v β) w) : Does P effs ops S ⟨i, fun β => [vx β, c], v, .pure⟩ := by
  rintro o h1 β ρ h2 w
  rw [ho] at h1
  cases h1
  rw [hop] at h2
  simp [Op.operands] at h2
  obtain ⟨g1, g2⟩ := h β x w
  simp [execOp, hop, h2.1, h2.2, g1, g2]
end
end Go.FreeU
