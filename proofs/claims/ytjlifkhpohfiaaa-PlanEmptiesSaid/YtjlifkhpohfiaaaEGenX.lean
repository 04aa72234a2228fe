/- Single operations for tables that hang on what comes up. No condition. -/
import Derived.Test.YtjlifkhpohfiaaaEGen
import Derived.Test.YtjlifkhpohfiaaaFreeXB
namespace Go.FreeX
open Go Go.RowKit Go.Free
theorem upd_ne {ops : Array Oper} {β : Nat → Nat × Value} {i j k : Nat} {n : Nat × Value} (h : depB ops ops.size j i = false) (hk : depB ops ops.size j k = true) : upd β i n k = β k := by
  unfold upd
  rw [if_neg]
  rintro rfl
  rw [h] at hk
  cases hk
theorem look_cons {a : Nat} {e e' : Ent} {r r' : List (Nat × Ent)} {j : Nat} (h1 : a = j → e = e') (h2 : look r j = look r' j) : look ((a, e) :: r) j = look ((a, e') :: r') j := by
  unfold look
  by_cases hj : a = j
  · subst hj
    rw [h1 rfl]
    simp
  · rw [if_neg (fun h => hj (Nat.eq_of_beq_eq_true h)), if_neg (fun h => hj (Nat.eq_of_beq_eq_true h))]
    exact h2
def isRel : Ent → Bool
  | .rel .. => true
  | .app .. => true
  | _ => false
theorem no_rel : ∀ {tab : List (Nat × Ent)}, (tab.any fun x => isRel x.2) = false → ∀ i, relOf (look tab i) = none
  | [], _, _ => rfl
  | (a, e) :: r, h, i => by
    rw [List.any_cons, Bool.or_eq_false_iff] at h
    unfold look
    split
    · obtain ⟨h1, _⟩ := h
      cases e <;> first | rfl | cases h1
    · exact no_rel h.2 i
end Go.FreeX
namespace Go.Proofs.Ytjlifkhpohfiaaa
open Go.RowKit Go.Op
set_option maxRecDepth 100000
theorem range_stay {B : Nat} {w w' : World} {b o : Nat} {vs : List Value} (h : w.rangeAt b o vs) (hb : Below B w w') (hl : b < B) : w'.rangeAt b o vs := fun j v hj => by
  rw [hb.cell (p := ⟨b, o + j, none⟩) hl]
  exact h j v hj
theorem genx_at {S F : World → Prop} {K : World → World → Prop} {D : Value → World → Prop} {oo : Option Oper} (o0 : Oper) (ho : oo = some o0) {T : TypeId} {x i : Operand} (hop : o0.op = .indexAddr T x i) {vs vi v : Value} (h : ∀ w, (Instr.indexAt T vs vi).run Try.prog w = .ok v w) :
    (FreeX.Ent.gen [vs, vi] v).Ok Try.prog S F oo K D := by
  rintro o h1 ρ h2 w _ _
  rw [ho] at h1
  cases h1
  rw [hop] at h2
  simp [Op.operands] at h2
  simp [execOp, hop, h2.1, h2.2, h]
theorem genx_len {S F : World → Prop} {K : World → World → Prop} {D : Value → World → Prop} {oo : Option Oper} (o0 : Oper) (ho : oo = some o0) {T : TypeId} {x : Operand} (hop : o0.op = .call { callee := .builtin .len, args := #[x], argTypes := #[T] }) {vs v : Value} (h : ∀ ty w, (Builtin.len_ #[T] ty #[vs]).run Try.prog w = .ok v w) :
    (FreeX.Ent.gen [vs] v).Ok Try.prog S F oo K D := by
  rintro o h1 ρ h2 w _ _
  rw [ho] at h1
  cases h1
  rw [hop] at h2
  have h3 : ρ x = vs := by simpa [Op.operands, Call.operands] using h2
  simp [execOp, hop, h3, resolve, invoke, builtin, h]
end Go.Proofs.Ytjlifkhpohfiaaa
