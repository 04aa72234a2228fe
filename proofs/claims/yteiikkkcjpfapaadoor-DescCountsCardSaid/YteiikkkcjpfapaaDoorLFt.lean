/- Tools for regions that draw their order; what Cells and Live answer; reaps one behind the other. No condition. -/
import Derived.Test.YteiikkkcjpfapaaDoorAwB
import Derived.Test.YteiikkkcjpfapaaDoorWGen
namespace Go.FreeV
open Go Go.RowKit Go.Free Go.Op
theorem d_get3 {P : Program} {effs : List Nat} {ops : Array Oper} {S : List Bool → (Nat → Value) → World → Prop} {i : Nat} (o0 : Oper) (ho : ops[i]? = some o0) {f : FuncId} {x a b c : Operand} {ts : Array TypeId} (hop : o0.op = .call { callee := .value x, args := #[a, b, c], argTypes := ts }) (he : ∀ zs w, (callFunc f zs).run P w = .ok (.enter f zs) w) (p : Nat) (hp : effs[p]? = some i) {va vb vc : (Nat → Value) → Value}
    (h : ∀ β bs w, S bs β w → Due ops effs i bs → Calls P f #[va β, vb β, vc β] w fun e w' => ∃ u, e = .returned u ∧ S (bs.set p true) (upd β i u) w') : Does P effs ops S ⟨i, fun β => [.func (.func f) #[] #[], va β, vb β, vc β], fun β => β i, .get⟩ := by
  refine ⟨fun β u => upd_same i u, p, hp, ?_⟩
  rintro o h1 β ρ h2 bs w hS hd
  rw [ho] at h1
  cases h1
  rw [hop] at h2
  have h3 : ρ x = .func (.func f) #[] #[] ∧ ρ a = va β ∧ ρ b = vb β ∧ ρ c = vc β := by simpa [Op.operands, Call.operands] using h2
  have hcf := he #[va β, vb β, vc β] w
  exact ⟨f, _, by simp [execOp, hop, resolve, h3.1, h3.2.1, h3.2.2.1, h3.2.2.2, invoke, go_sem, hcf], h β bs w hS hd⟩
theorem d_get1 {P : Program} {effs : List Nat} {ops : Array Oper} {S : List Bool → (Nat → Value) → World → Prop} {i : Nat} (o0 : Oper) (ho : ops[i]? = some o0) {f : FuncId} {x a : Operand} {ts : Array TypeId} (hop : o0.op = .call { callee := .value x, args := #[a], argTypes := ts }) (he : ∀ zs w, (callFunc f zs).run P w = .ok (.enter f zs) w) (p : Nat) (hp : effs[p]? = some i) {va : (Nat → Value) → Value}
    (h : ∀ β bs w, S bs β w → Due ops effs i bs → Calls P f #[va β] w fun e w' => ∃ u, e = .returned u ∧ S (bs.set p true) (upd β i u) w') : Does P effs ops S ⟨i, fun β => [.func (.func f) #[] #[], va β], fun β => β i, .get⟩ := by
  refine ⟨fun β u => upd_same i u, p, hp, ?_⟩
  rintro o h1 β ρ h2 bs w hS hd
  rw [ho] at h1
  cases h1
  rw [hop] at h2
  have h3 : ρ x = .func (.func f) #[] #[] ∧ ρ a = va β := by simpa [Op.operands, Call.operands] using h2
  have hcf := he #[va β] w
  exact ⟨f, _, by simp [execOp, hop, resolve, h3.1, h3.2, invoke, go_sem, hcf], h β bs w hS hd⟩
theorem d_binr {P : Program} {effs : List Nat} {ops : Array Oper} {S : List Bool → (Nat → Value) → World → Prop} {i : Nat} (o0 : Oper) (ho : ops[i]? = some o0) {op : BinOp} {T R : TypeId} {x y : Operand} (hop : o0.op = .binOp op T x y R) {vx vy v : (Nat → Value) → Value} (h : ∀ β bs xo yo w, S bs β w → Due ops effs i bs → (eqGuard op T xo yo (vx β) (vy β)).run P w = .ok () w ∧ (binOp op T (vx β) (vy β)).run P w = .ok (v β) w) : Does P effs ops S ⟨i, fun β => [vx β, vy β], v, .read⟩ := by
  rintro o h1 β ρ h2 bs w hS hD
  rw [ho] at h1
  cases h1
  rw [hop] at h2
  simp [Op.operands] at h2
  obtain ⟨g1, g2⟩ := h β bs x y w hS hD
  simp [execOp, hop, h2.1, h2.2, g1, g2]
end Go.FreeV
namespace Go.FreeV
open Go Go.RowKit Go.Free Go.Op
theorem d_get5 {P : Program} {effs : List Nat} {ops : Array Oper} {S : List Bool → (Nat → Value) → World → Prop} {i : Nat} (o0 : Oper) (ho : ops[i]? = some o0) {f : FuncId} {x a b c d e : Operand} {ts : Array TypeId} (hop : o0.op = .call { callee := .value x, args := #[a, b, c, d, e], argTypes := ts }) (he : ∀ zs w, (callFunc f zs).run P w = .ok (.enter f zs) w) (p : Nat) (hp : effs[p]? = some i) {va vb vc vd ve : (Nat → Value) → Value}
    (h : ∀ β bs w, S bs β w → Due ops effs i bs → Calls P f #[va β, vb β, vc β, vd β, ve β] w fun e w' => ∃ u, e = .returned u ∧ S (bs.set p true) (upd β i u) w') : Does P effs ops S ⟨i, fun β => [.func (.func f) #[] #[], va β, vb β, vc β, vd β, ve β], fun β => β i, .get⟩ := by
  refine ⟨fun β u => upd_same i u, p, hp, ?_⟩
  rintro o h1 β ρ h2 bs w hS hd
  rw [ho] at h1
  cases h1
  rw [hop] at h2
  have h3 : ρ x = .func (.func f) #[] #[] ∧ ρ a = va β ∧ ρ b = vb β ∧ ρ c = vc β ∧ ρ d = vd β ∧ ρ e = ve β := by simpa [Op.operands, Call.operands] using h2
  have hcf := he #[va β, vb β, vc β, vd β, ve β] w
  exact ⟨f, _, by simp [execOp, hop, resolve, h3.1, h3.2.1, h3.2.2.1, h3.2.2.2.1, h3.2.2.2.2.1, h3.2.2.2.2.2, invoke, go_sem, hcf], h β bs w hS hd⟩
end Go.FreeV
namespace Go.Proofs.YteiikkkcjpfapaaDoor
open Go.RowKit Go.Op
set_option maxRecDepth 100000

theorem load_24 {w : World} {p : Addr} {b : Nat} (h : w.cell? p = some (.pointer (some ⟨b, 0, none⟩))) : (Instr.loadAt 24 (.pointer (some p))).run Tryd.prog w = .ok (.pointer (some ⟨b, 0, none⟩)) w := by go_simp
theorem cmp_neq3 {a b : Int} {r : Bool} (xo yo : Operand) (w : World) (h : (a != b) = r) : (eqGuard .neq 3 xo yo (.int .i64 a) (.int .i64 b)).run Tryd.prog w = .ok () w ∧ (binOp .neq 3 (.int .i64 a) (.int .i64 b)).run Tryd.prog w = .ok (.bool r) w :=
  ⟨by simp [eqGuard], by subst h; go_simp⟩
theorem cmp_neq44 {a b : Int} {r : Bool} (xo yo : Operand) (w : World) (h : (a != b) = r) : (eqGuard .neq 44 xo yo (.int .i64 a) (.int .i64 b)).run Tryd.prog w = .ok () w ∧ (binOp .neq 44 (.int .i64 a) (.int .i64 b)).run Tryd.prog w = .ok (.bool r) w :=
  ⟨by simp [eqGuard], by subst h; go_simp⟩
theorem cmp_add3 {a b r : Int} (xo yo : Operand) (w : World) (h : a + b = r ∧ -9223372036854775808 ≤ r ∧ r ≤ 9223372036854775807) : (eqGuard .add 3 xo yo (.int .i64 a) (.int .i64 b)).run Tryd.prog w = .ok () w ∧ (binOp .add 3 (.int .i64 a) (.int .i64 b)).run Tryd.prog w = .ok (.int .i64 r) w := by
  obtain ⟨h, h0, h1⟩ := h
  exact ⟨by simp [eqGuard], by subst h; go_simp; rw [IntKind.wrap_i64]; omega⟩
theorem neq44_read {v : Value} {a b : Int} {r : Bool} (e : v = .int .i64 a) (h : (a != b) = r) (xo yo : Operand) (w : World) : (eqGuard .neq 44 xo yo v (.int .i64 b)).run Tryd.prog w = .ok () w ∧ (binOp .neq 44 v (.int .i64 b)).run Tryd.prog w = .ok (.bool r) w := by
  subst e; exact cmp_neq44 xo yo w h
/-- A region with one call whose answer isn't known ahead. -/
def UMid (w : World) (k : Nat) (Post : Value → World → Prop) (bs : List Bool) (β : Nat → Value) (W : World) : Prop :=
  (bs[0]? = some false → Below w.heap.size w W) ∧ (bs[0]? = some true → Post (β k) W)
theorem umid_start {w : World} {k : Nat} {Post : Value → World → Prop} {β : Nat → Value} : UMid w k Post [false] β w.drew := ⟨fun _ => (Below.refl _ _).drew, fun e => (by cases e)⟩
theorem umid_call {w : World} {k : Nat} {Post : Value → World → Prop} {bs : List Bool} {β : Nat → Value} {W : World} {f : FuncId} {args : Array Value} (h : UMid w k Post bs β W) (h0 : bs[0]? = some false) (hc : ∀ W, Below w.heap.size w W → Calls Tryd.prog f args W fun e w' => ∃ u, e = .returned u ∧ Post u w') :
    Calls Tryd.prog f args W fun e w' => ∃ u, e = .returned u ∧ UMid w k Post (bs.set 0 true) (FreeV.upd β k u) w' := by
  refine (hc W (h.1 h0)).mono ?_
  rintro e w' ⟨u, rfl, hp⟩
  refine ⟨u, rfl, fun e2 => (by rw [set_at h0] at e2; cases e2), fun _ => ?_⟩
  simp only [FreeV.upd, if_true]
  exact hp
section
variable {w0 : World} {b c r pb po : Nat} {t : Value} {G : List (Nat × List Sw)} {w : World} {m : M} {s : Pt}
theorem live_E (h : HasE w0 b c r G w m) : Calls Tryd.prog 29 #[.pointer (some ⟨b, 0, none⟩)] w fun e w' => e = .returned (.int .i64 m.live) ∧ w = w' := by
  obtain ⟨m0, h1, h2, h3, rfl, h5⟩ := h
  exact live_any w b c r m0 h1.at_
theorem mkb4 (x : Value) (w : World) : (Instr.makeInterface 4 x).run Tryd.prog w = .ok (.iface 4 x) w := run_makeInterface w 4 x (by kernel_rfl)
theorem enter_29 (xs : Array Value) (w : World) : (callFunc 29 xs).run Tryd.prog w = .ok (.enter 29 xs) w := by kernel_rfl
theorem enter_32 (xs : Array Value) (w : World) : (callFunc 32 xs).run Tryd.prog w = .ok (.enter 32 xs) w := by kernel_rfl
theorem enter_33 (xs : Array Value) (w : World) : (callFunc 33 xs).run Tryd.prog w = .ok (.enter 33 xs) w := by kernel_rfl
theorem mcells_any (w : World) (b c r : Nat) (m : M) (h : At w b c r m) : Calls Tryd.prog 62 #[.pointer (some ⟨b, 0, none⟩)] w fun e w' => e = .returned (.int .i64 (m.cells.length : Int)) ∧ w = w' := by
  have h0 := h.head.h0
  clear h
  go_enter Tryd.func62, Tryd.ntmps62
  go_wp2
  go_ret
  exact ⟨rfl, rfl⟩
theorem pcells_E (h : SysE w0 b c r pb po t G w m s) : Calls Tryd.prog 34 #[.pointer (some ⟨pb, po, none⟩)] w fun e w' => e = .returned (.int .i64 (m.cells.length : Int)) ∧ w = w' := by
  obtain ⟨m0, s0, h1, h2, h3, h4, rfl, rfl⟩ := h
  have hm := mcells_any w b c r m0 h1.has.at_
  have c0 := h1.pt.cells.c0
  have hl : m0.e.cells.length = m0.cells.length := List.length_map ..
  rw [hl]
  clear h1 h2 h3 h4 hl
  go_enter Tryd.func34, Tryd.ntmps34
  go_wp2_with fail
  refine hm.mono ?_
  rintro e w1 ⟨rfl, rfl⟩
  clear hm
  go_wp2
  go_ret
  exact ⟨rfl, rfl⟩
end
/-- Reaps of the first places. -/
def reapS (below : Int) (m : M) : Nat → M
  | 0 => m
  | i + 1 => ((Qn.reap (i : Int) below).on (reapS below m i)).1
theorem on_reap_len (p s : Int) (m : M) : ((Qn.reap p s).on m).1.cells.length = m.cells.length := by
  show ((m.reap p s).1).cells.length = _
  unfold M.reap
  split
  · rfl
  · split
    · split
      · show (m.cells.set _ _).length = _
        rw [List.length_set]
      · rfl
    · rfl
theorem reapS_len (s : Int) (m : M) : ∀ i, (reapS s m i).cells.length = m.cells.length
  | 0 => rfl
  | i + 1 => (on_reap_len _ _ _).trans (reapS_len s m i)
theorem reapS_count (s : Int) (m : M) : ∀ i, (reapS s m i).count = m.count + i
  | 0 => by simp [reapS]
  | i + 1 => by
    have h := on_count (.reap (i : Int) s) (reapS s m i)
    have ih := reapS_count s m i
    show ((Qn.reap (i : Int) s).on (reapS s m i)).1.count = _
    push_cast
    omega
end Go.Proofs.YteiikkkcjpfapaaDoor
