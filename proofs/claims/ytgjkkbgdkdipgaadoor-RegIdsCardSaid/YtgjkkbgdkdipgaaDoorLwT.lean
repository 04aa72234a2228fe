/- Tools for regions that draw their order; what Cells and Live answer; reaps one behind the other. No condition. -/
import Derived.Test.YtgjkkbgdkdipgaaDoorLwD
import Derived.Test.YtgjkkbgdkdipgaaDoorWGen
namespace Go.FreeV
open Go Go.RowKit Go.Free Go.Op
theorem d_get3 {P : Program} {effs : List Nat} {ops : Array Oper} {S : List Bool → (Nat → Value) → World → Prop} {i : Nat} (o0 : Oper) (ho : ops[i]? = some o0) {f : FuncId} {x a b c : Operand} {ts : Array TypeId} (hop : o0.op = .call { callee := .value x, args := #[a, b, c], argTypes := ts }) (he : ∀ zs w, (callFunc f zs).run P w = .ok (.enter f zs) w) (p : Nat) (hp : effs[p]? = some i) {va vb vc : (Nat → Value) → Value}
    (h : ∀ β bs w, S bs β w → Due ops effs i bs → Calls P f #[va β, vb β, vc β] w fun e w' => ∃ u, e = .returned u ∧ S (bs.set p true) (upd β i u) w') : Does P effs ops S ⟨i, fun β => [.func (.func f) #[] #[], va β, vb β, vc β], fun β => β i, .get⟩ := by
  refine ⟨fun β u => upd_same i u, p, hp, ?_⟩
  rintro o h1 β ρ h2 bs w hS hd
  rw [ho] at h1
  cases h1
  rw [hop] at h2
  have h3 : ρ x = .func (.func f) #[] #[] ∧ ρ a = va β ∧ ρ b = vb β ∧ ρ c = vc β := by simpa [Op.operands, Call.operands] using h2
  have hcf := he #[va β, vb β, vc β] w
  exact ⟨f, _, by simp [execOp, hop, resolve, h3.1, h3.2.1, h3.2.2.1, h3.2.2.2, invoke, go_sem, hcf], h β bs w hS hd⟩
theorem d_get1 {P : Program} {effs : List Nat} {ops : Array Oper} {S : List Bool → (Nat → Value) → World → Prop} {i : Nat} (o0 : Oper) (ho : ops[i]? = some o0) {f : FuncId} {x a : Operand} {ts : Array TypeId} (hop : o0.op = .call { callee := .value x, args := #[a], argTypes := ts }) (he : ∀ zs w, (callFunc f zs).run P w = .ok (.enter f zs) w) (p : Nat) (hp : effs[p]? = some i) {va : (Nat → Value) → Value}
    (h : ∀ β bs w, S bs β w → Due ops effs i bs → Calls P f #[va β] w fun e w' => ∃ u, e = .returned u ∧ S (bs.set p true) (upd β i u) w') : Does P effs ops S ⟨i, fun β => [.func (.func f) #[] #[], va β], fun β => β i, .get⟩ := by
  refine ⟨fun β u => upd_same i u, p, hp, ?_⟩
  rintro o h1 β ρ h2 bs w hS hd
  rw [ho] at h1
  cases h1
  rw [hop] at h2
  have h3 : ρ x = .func (.func f) #[] #[] ∧ ρ a = va β := by simpa [Op.operands, Call.operands] using h2
  have hcf := he #[va β] w
  exact ⟨f, _, by simp [execOp, hop, resolve, h3.1, h3.2, invoke, go_sem, hcf], h β bs w hS hd⟩
theorem d_binr {P : Program} {effs : List Nat} {ops : Array Oper} {S : List Bool → (Nat → Value) → World → Prop} {i : Nat} (o0 : Oper) (ho : ops[i]? = some o0) {op : BinOp} {T R : TypeId} {x y : Operand} (hop : o0.op = .binOp op T x y R) {vx vy v : (Nat → Value) → Value} (h : ∀ β bs xo yo w, S bs β w → Due ops effs i bs → (eqGuard op T xo yo (vx β) (vy β)).run P w = .ok () w ∧ (binOp op T (vx β) (vy β)).run P w = .ok (v β) w) : Does P effs ops S ⟨i, fun β => [vx β, vy β], v, .read⟩ := by
  rintro o h1 β ρ h2 bs w hS hD
  rw [ho] at h1
  cases h1
  rw [hop] at h2
  simp [Op.operands] at h2
  obtain ⟨g1, g2⟩ := h β bs x y w hS hD
  simp [execOp, hop, h2.1, h2.2, g1, g2]
end Go.FreeV
namespace Go.FreeV
open Go Go.RowKit Go.Free Go.Op
theorem d_get5 {P : Program} {effs : List Nat} {ops : Array Oper} {S : List Bool → (Nat → Value) → World → Prop} {i : Nat} (o0 : Oper) (ho : ops[i]? = some o0) {f : FuncId} {x a b c d e : Operand} {ts : Array TypeId} (hop : o0.op = .call { callee := .value x, args := #[a, b, c, d, e], argTypes := ts }) (he : ∀ zs w, (callFunc f zs).run P w = .ok (.enter f zs) w) (p : Nat) (hp : effs[p]? = some i) {va vb vc vd ve : (Nat → Value) → Value}
    (h : ∀ β bs w, S bs β w → Due ops effs i bs → Calls P f #[va β, vb β, vc β, vd β, ve β] w fun e w' => ∃ u, e = .returned u ∧ S (bs.set p true) (upd β i u) w') : Does P effs ops S ⟨i, fun β => [.func (.func f) #[] #[], va β, vb β, vc β, vd β, ve β], fun β => β i, .get⟩ := by
  refine ⟨fun β u => upd_same i u, p, hp, ?_⟩
  rintro o h1 β ρ h2 bs w hS hd
  rw [ho] at h1
  cases h1
  rw [hop] at h2
  have h3 : ρ x = .func (.func f) #[] #[] ∧ ρ a = va β ∧ ρ b = vb β ∧ ρ c = vc β ∧ ρ d = vd β ∧ ρ e = ve β := by simpa [Op.operands, Call.operands] using h2
  have hcf := he #[va β, vb β, vc β, vd β, ve β] w
  exact ⟨f, _, by simp [execOp, hop, resolve, h3.1, h3.2.1, h3.2.2.1, h3.2.2.2.1, h3.2.2.2.2.1, h3.2.2.2.2.2, invoke, go_sem, hcf], h β bs w hS hd⟩
end Go.FreeV
namespace Go.Proofs.YtgjkkbgdkdipgaaDoor
open Go.RowKit Go.Op
set_option maxRecDepth 100000

theorem load_24 {w : World} {p : Addr} {b : Nat} (h : w.cell? p = some (.pointer (some ⟨b, 0, none⟩))) : (Instr.loadAt 24 (.pointer (some p))).run Tryd.prog w = .ok (.pointer (some ⟨b, 0, none⟩)) w := by go_simp
theorem cmp_neq3 {a b : Int} {r : Bool} (xo yo : Operand) (w : World) (h : (a != b) = r) : (eqGuard .neq 3 xo yo (.int .i64 a) (.int .i64 b)).run Tryd.prog w = .ok () w ∧ (binOp .neq 3 (.int .i64 a) (.int .i64 b)).run Tryd.prog w = .ok (.bool r) w :=
  ⟨by simp [eqGuard], by subst h; go_simp⟩
theorem cmp_neq25 {a b : Int} {r : Bool} (xo yo : Operand) (w : World) (h : (a != b) = r) : (eqGuard .neq 25 xo yo (.int .i64 a) (.int .i64 b)).run Tryd.prog w = .ok () w ∧ (binOp .neq 25 (.int .i64 a) (.int .i64 b)).run Tryd.prog w = .ok (.bool r) w :=
  ⟨by simp [eqGuard], by subst h; go_simp⟩
theorem cmp_add3 {a b r : Int} (xo yo : Operand) (w : World) (h : a + b = r ∧ -9223372036854775808 ≤ r ∧ r ≤ 9223372036854775807) : (eqGuard .add 3 xo yo (.int .i64 a) (.int .i64 b)).run Tryd.prog w = .ok () w ∧ (binOp .add 3 (.int .i64 a) (.int .i64 b)).run Tryd.prog w = .ok (.int .i64 r) w := by
  obtain ⟨h, h0, h1⟩ := h
  exact ⟨by simp [eqGuard], by subst h; go_simp; rw [IntKind.wrap_i64]; omega⟩
theorem cmp_eql25 {a b : Int} {r : Bool} (xo yo : Operand) (w : World) (h : (a == b) = r) : (eqGuard .eql 25 xo yo (.int .i64 a) (.int .i64 b)).run Tryd.prog w = .ok () w ∧ (binOp .eql 25 (.int .i64 a) (.int .i64 b)).run Tryd.prog w = .ok (.bool r) w :=
  ⟨by simp [eqGuard], by subst h; go_simp⟩
theorem eql25_read {v : Value} {a b : Int} {r : Bool} (e : v = .int .i64 a) (h : (a == b) = r) (xo yo : Operand) (w : World) : (eqGuard .eql 25 xo yo v (.int .i64 b)).run Tryd.prog w = .ok () w ∧ (binOp .eql 25 v (.int .i64 b)).run Tryd.prog w = .ok (.bool r) w := by
  subst e; exact cmp_eql25 xo yo w h
theorem cmp_neq4 {a b r : Bool} (xo yo : Operand) (w : World) (h : (a != b) = r) : (eqGuard .neq 4 xo yo (.bool a) (.bool b)).run Tryd.prog w = .ok () w ∧ (binOp .neq 4 (.bool a) (.bool b)).run Tryd.prog w = .ok (.bool r) w :=
  ⟨by simp [eqGuard], by subst h; cases a <;> cases b <;> kernel_rfl⟩
/-- A region with one call whose answer isn't known ahead. -/
def UMid (w : World) (k : Nat) (Post : Value → World → Prop) (bs : List Bool) (β : Nat → Value) (W : World) : Prop :=
  (bs[0]? = some false → Below w.heap.size w W) ∧ (bs[0]? = some true → Post (β k) W)
theorem umid_start {w : World} {k : Nat} {Post : Value → World → Prop} {β : Nat → Value} : UMid w k Post [false] β w.drew := ⟨fun _ => (Below.refl _ _).drew, fun e => (by cases e)⟩
theorem umid_call {w : World} {k : Nat} {Post : Value → World → Prop} {bs : List Bool} {β : Nat → Value} {W : World} {f : FuncId} {args : Array Value} (h : UMid w k Post bs β W) (h0 : bs[0]? = some false) (hc : ∀ W, Below w.heap.size w W → Calls Tryd.prog f args W fun e w' => ∃ u, e = .returned u ∧ Post u w') :
    Calls Tryd.prog f args W fun e w' => ∃ u, e = .returned u ∧ UMid w k Post (bs.set 0 true) (FreeV.upd β k u) w' := by
  refine (hc W (h.1 h0)).mono ?_
  rintro e w' ⟨u, rfl, hp⟩
  refine ⟨u, rfl, fun e2 => (by rw [set_at h0] at e2; cases e2), fun _ => ?_⟩
  simp only [FreeV.upd, if_true]
  exact hp
end Go.Proofs.YtgjkkbgdkdipgaaDoor
