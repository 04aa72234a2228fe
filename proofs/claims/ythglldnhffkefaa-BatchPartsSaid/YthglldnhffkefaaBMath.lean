/- Mathematics of batches: which entries are one; single operations for tables. No condition. -/
import Derived.Test.YthglldnhffkefaaBWalkB
namespace Go.FreeS
open Go Go.RowKit Go.Free Go.Op
theorem d_hi {P : Program} {S : Nat → World → Prop} {oo : Option Oper} (o0 : Oper) (ho : oo = some o0) {T : TypeId} {x y : Operand} (hop : o0.op = .slice T x none (some y) none) {vx vy v : Value} (h : ∀ w, (Instr.sliceAt T vx none (some vy) none).run P w = .ok v w) : Does P S oo [vx, vy] v .pure := by
  rintro o h1 ρ h2 w
  rw [ho] at h1
  cases h1
  rw [hop] at h2
  simp [Op.operands] at h2
  simp [execOp, hop, h2.1, h2.2, h]
theorem d_lo {P : Program} {S : Nat → World → Prop} {oo : Option Oper} (o0 : Oper) (ho : oo = some o0) {T : TypeId} {x y : Operand} (hop : o0.op = .slice T x (some y) none none) {vx vy v : Value} (h : ∀ w, (Instr.sliceAt T vx (some vy) none none).run P w = .ok v w) : Does P S oo [vx, vy] v .pure := by
  rintro o h1 ρ h2 w
  rw [ho] at h1
  cases h1
  rw [hop] at h2
  simp [Op.operands] at h2
  simp [execOp, hop, h2.1, h2.2, h]
end Go.FreeS
namespace Go.Proofs.Ythglldnhffkefaa
open Go.RowKit Go.Op
set_option maxRecDepth 100000

theorem cmp_geq3 {a b : Int} {r : Bool} (xo yo : Operand) (w : World) (h : decide (b ≤ a) = r) : (eqGuard .geq 3 xo yo (.int .i64 a) (.int .i64 b)).run Try.prog w = .ok () w ∧ (binOp .geq 3 (.int .i64 a) (.int .i64 b)).run Try.prog w = .ok (.bool r) w :=
  ⟨by simp [eqGuard], by subst h; go_simp⟩
theorem cmp_eql9 {a b : ByteArray} {r : Bool} (xo yo : Operand) (w : World) (h : decide (a = b) = r) : (eqGuard .eql 9 xo yo (.string a) (.string b)).run Try.prog w = .ok () w ∧ (binOp .eql 9 (.string a) (.string b)).run Try.prog w = .ok (.bool r) w :=
  ⟨by simp [eqGuard], by subst h; rw [← same_text]; go_simp⟩
theorem cmp_neq9 {a b : ByteArray} {r : Bool} (xo yo : Operand) (w : World) (h : decide (a ≠ b) = r) : (eqGuard .neq 9 xo yo (.string a) (.string b)).run Try.prog w = .ok () w ∧ (binOp .neq 9 (.string a) (.string b)).run Try.prog w = .ok (.bool r) w :=
  ⟨by simp [eqGuard], by
    have e : decide (a ≠ b) = !(a.toList == b.toList) := by rw [same_text, decide_not]
    rw [e] at h
    subst h
    go_simp⟩
theorem cmp_lss9 {a b : ByteArray} {r : Bool} (xo yo : Operand) (w : World) (h : lt a b = r) : (eqGuard .lss 9 xo yo (.string a) (.string b)).run Try.prog w = .ok () w ∧ (binOp .lss 9 (.string a) (.string b)).run Try.prog w = .ok (.bool r) w :=
  ⟨by simp [eqGuard], by subst h; unfold lt; go_simp⟩
theorem cmp_neq4 {a b r : Bool} (xo yo : Operand) (w : World) (h : (a != b) = r) : (eqGuard .neq 4 xo yo (.bool a) (.bool b)).run Try.prog w = .ok () w ∧ (binOp .neq 4 (.bool a) (.bool b)).run Try.prog w = .ok (.bool r) w :=
  ⟨by simp [eqGuard], by subst h; go_simp; cases a <;> cases b <;> rfl⟩
theorem at_25o (b o n c k : Nat) (h : k < n) (w : World) : (Instr.indexAt 25 (.slice (some ⟨b, o, none⟩) n c) (.int .i64 (k : Int))).run Try.prog w = .ok (.pointer (some ⟨b, o + k * 3, none⟩)) w := by
  have h1 : (k : Int) < (n : Int) := by omega
  go_simp

/-- May an entry stand in a batch? -/
def okE (e : En) : Bool := decide (0 < e.key.size) && decide (e.key.size ≤ 1024) && decide (e.val.size ≤ 65536) && !(e.gone && decide (0 < e.val.size))
/-- No key twice. -/
def Unlike (l : List En) : Prop := ∀ k, (ofKey k l).length ≤ 1
def goodP (l : List En) : Prop := 1 ≤ l.length ∧ l.length ≤ 4096 ∧ (∀ e ∈ l, okE e = true) ∧ Unlike l
open Classical in
noncomputable def errL (l : List En) : Int := if goodP l then 0 else 1
theorem err_yes {l : List En} (h : goodP l) : errL l = 0 := if_pos h
theorem err_no {l : List En} (h : ¬ goodP l) : errL l = 1 := if_neg h
theorem Unlike.alike {l m : List En} (h : Unlike l) (g : Alike l m) : Unlike m := fun k => by rw [← g.2 k]; exact h k
theorem unlike_sort {l : List En} : Unlike (sortL l) ↔ Unlike l := ⟨fun h => h.alike (alike_sort l).symm, fun h => h.alike (alike_sort l)⟩
theorem Unlike.pre {l m : List En} (h : Unlike (l ++ m)) : Unlike l := fun k => by
  have := h k
  rw [ofKey_append, List.length_append] at this
  omega
theorem ofKey_nil {k : ByteArray} {l : List En} : ofKey k l = [] ↔ ∀ e ∈ l, e.key ≠ k := by
  unfold ofKey
  rw [List.filter_eq_nil_iff]
  simp
theorem unlike_snoc {l : List En} {x : En} (h : Unlike l) (h2 : ∀ e ∈ l, e.key ≠ x.key) : Unlike (l ++ [x]) := fun k => by
  rw [ofKey_append, List.length_append]
  by_cases e : x.key = k
  · subst e
    rw [ofKey_nil.2 h2]
    unfold ofKey
    simp
  · have : ofKey k [x] = [] := ofKey_nil.2 (by simpa using e)
    rw [this]
    exact h k
theorem unlike_twice {l m : List En} {x : En} {e : En} (he : e ∈ l) (hk : e.key = x.key) : ¬ Unlike (l ++ x :: m) := fun h => by
  have := h x.key
  rw [ofKey_append, List.length_append, ofKey_cons, if_pos rfl, List.length_cons] at this
  have h2 : 0 < (ofKey x.key l).length := List.length_pos_of_mem (show e ∈ ofKey x.key l by unfold ofKey; simp [he, hk])
  omega
theorem split_at {l : List En} {i : Nat} (h : i < l.length) : l = l.take i ++ l[i] :: l.drop (i + 1) := by
  rw [← List.drop_eq_getElem_cons h, List.take_append_drop]
theorem atK_lt {l : List En} {k : ByteArray} (h : atK l k < l.length) : ∃ e ∈ l, e.key = k :=
  ⟨l[atK l k], List.getElem_mem h, of_decide_eq_true (List.findIdx_getElem (w := h))⟩
theorem atK_ge {l : List En} {k : ByteArray} (h : ¬ atK l k < l.length) : ∀ e ∈ l, e.key ≠ k := by
  intro e he hk
  exact h (List.findIdx_lt_length_of_exists ⟨e, he, decide_eq_true hk⟩)
end Go.Proofs.Ythglldnhffkefaa
