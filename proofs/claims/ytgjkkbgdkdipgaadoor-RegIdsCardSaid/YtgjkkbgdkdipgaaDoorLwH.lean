/- Rows that a closure holds beside its port and memory. No condition. -/
import Derived.Test.YtgjkkbgdkdipgaaDoorLwG
namespace Go.Proofs.YtgjkkbgdkdipgaaDoor
open Go.RowKit Go.Op
set_option maxRecDepth 100000

def boolRow (l : List Bool) : List Value := l.map Value.bool
def OwnB (w : World) (B : Nat) (v : Value) (l : List Bool) : Prop := w.ownsRow B 4 1 v l.length (boolRow l)
theorem OwnB.nil (w : World) (B : Nat) : OwnB w B (.slice none 0 0) [] := World.ownsRow_nil _ _ _ _
theorem OwnB.lt {w : World} {B : Nat} {v : Value} {l : List Bool} (h : OwnB w B v l) : ∀ k, v.ownBlock = some k → B ≤ k ∧ k < w.heap.size := World.ownsRow.lt h
theorem OwnB.of {w w' : World} {B : Nat} {v : Value} {l : List Bool} (h : OwnB w B v l) (hk : ∀ k, v.ownBlock = some k → w'.heap[k]? = w.heap[k]?) : OwnB w' B v l := by
  obtain ⟨h1, h2⟩ := h
  refine ⟨h1, ?_⟩
  rcases h2 with h2 | ⟨g, cap, cur, rfl, b, c, d⟩
  · exact .inl h2
  · exact .inr ⟨g, cap, cur, rfl, b, by rw [hk g rfl]; exact c, d⟩
theorem OwnB.see {w : World} {B : Nat} {v : Value} {l : List Bool} (h : OwnB w B v l) : ∃ a c, v = .slice a l.length c ∧ (l = [] ∨ ∃ g, a = some ⟨g, 0, none⟩ ∧ v.ownBlock = some g ∧ ∀ (k : Nat) (x : Bool), l[k]? = some x → w.cell? ⟨g, k, none⟩ = some (.bool x)) := by
  rcases h.2 with ⟨rfl, h2⟩ | ⟨g, cap, cur, rfl, b, c, d⟩
  · have : l = [] := List.eq_nil_of_length_eq_zero h2
    subst this
    exact ⟨none, 0, rfl, .inl rfl⟩
  · refine ⟨some ⟨g, 0, none⟩, cap, rfl, .inr ⟨g, rfl, rfl, fun k x hx => ?_⟩⟩
    have := World.ownsRow.cells h (g := g) rfl k (.bool x) (by simp [boolRow, hx])
    rw [show (⟨g, 0, none⟩ : Addr).add k = ⟨g, k, none⟩ by simp [Addr.add]; rintro rfl; rfl] at this
    exact this
theorem bool_one (l : List Bool) : ∀ u ∈ boolRow l, u.oneCell' = true := by
  intro u hu
  simp [boolRow] at hu
  rcases hu with ⟨_, rfl⟩ | ⟨_, rfl⟩ <;> rfl
theorem info4 : (Tryd.prog.info? 4).map (fun i => (i.zero, i.size, i.bytes)) = some (some (.bool false), 1, 1) := by kernel_rfl
theorem appendB {ops : Array Oper} {rest : List Oper} {o : Oper} {a : Act} {w : World} {Q : Exit → Act → World → Prop}
    (hg : o.guard = none) (s x : Operand) (hop : o.op = Op.call { callee := Callee.builtin Builtin.append, args := #[s, x], argTypes := #[64, 64] })
    (B : Nat) (v : Value) (l : List Bool) (n : Bool) (hs : a.eval s = v) (hown : OwnB w B v l) (g c : Nat) (hx : a.eval x = .slice (some ⟨g, 0, none⟩) 1 c) (hc : w.cell? ⟨g, 0, none⟩ = some (.bool n))
    (hl : l.length ≤ 1000000) (hB : B ≤ w.heap.size)
    (hK : ∀ v' w', OwnB w' B v' (l ++ [n]) → w.grownBy w' v.ownBlock → (v'.ownBlock = v.ownBlock ∨ v'.ownBlock = some w.heap.size) → wpList Tryd.prog ops Q rest (a.put o.dst v') w') :
    wpList Tryd.prog ops Q (o :: rest) a w := by
  obtain ⟨i0, hi, hz0, hz1, hz2⟩ := info_parts info4
  refine wpList_append_own_at w hg s x 64 hop B 4 i0 (.bool false) 1 1 Tryd.underlying64 hi hz0 hz1 hz2 rfl (by decide) v _ _ hs hown ⟨g, 0, none⟩ 1 c [.bool n] hx rfl ?_ (bool_one [n]) (by unfold maxLen; omega) (by omega) hB ?_
  · intro j u hu
    match j, hu with
    | 0, hu =>
      simp at hu
      subst hu
      exact hc
  · intro v' w' h1 h2 _ h4
    refine hK v' w' ?_ h2 h4
    unfold OwnB boolRow
    rw [List.map_append, List.length_append]
    exact h1
section
variable {w0 : World} {b c r pb po : Nat} {t1 t2 : Value} {G G0 G1 G2 : List (Nat × List Sw)} {w w1 w2 : World} {m m1 m2 : M} {s s1 s2 : Pt} {B : Nat} {v v' v5 v6 : Value} {Z : List Nat} {ids : List Int} {fl : List Bool}
/-- Two rows of the call's own: ids, and flags. -/
structure IRow (w0 : World) (b c r pb : Nat) (t1 : Value) (G1 : List (Nat × List Sw)) (w1 : World) (B : Nat) (v5 v6 : Value) (ids : List Int) (fl : List Bool) : Prop where
  o5 : OwnI w1 B v5 ids
  o6 : OwnB w1 B v6 fl
  l5 : ∀ k, v5.ownBlock = some k → Loc w0 b c r pb t1 G1 w1 k
  l6 : ∀ k, v6.ownBlock = some k → Loc w0 b c r pb t1 G1 w1 k
  ap : ∀ k, v5.ownBlock = some k → v6.ownBlock ≠ some k
theorem IRow.start : IRow w0 b c r pb t1 G1 w1 B (.slice none 0 0) (.slice none 0 0) [] [] := ⟨OwnI.nil _ _, OwnB.nil _ _, fun k e => (by cases e), fun k e => (by cases e), fun k e => (by cases e)⟩
theorem IRow.aft (h : IRow w0 b c r pb t1 G1 w1 B v5 v6 ids fl) (ha : Aft w0 b c r pb po t1 G1 w1 t2 G2 w2 m2 s2) : IRow w0 b c r pb t2 G2 w2 B v5 v6 ids fl :=
  ⟨h.o5.of fun k hk => ((h.l5 k hk).aft ha).2, h.o6.of fun k hk => ((h.l6 k hk).aft ha).2, fun k hk => ((h.l5 k hk).aft ha).1, fun k hk => ((h.l6 k hk).aft ha).1, h.ap⟩
theorem IRow.later (h : IRow w0 b c r pb t1 G1 w1 B v5 v6 ids fl) (hb : Below w1.heap.size w1 w2) : IRow w0 b c r pb t1 G1 w2 B v5 v6 ids fl :=
  ⟨h.o5.below hb, h.o6.of fun k hk => hb.block k (h.o6.lt k hk).2, fun k hk => (h.l5 k hk).later hb, fun k hk => (h.l6 k hk).later hb, h.ap⟩
/-- A row grows. -/
theorem Dgo.grown (h : Dgo w0 b c r pb Z w t1 G0 G1 w1 m1 s1) {ro : Option Nat} (hg : w1.grownBy w2 ro) (hr : ∀ k, ro = some k → Loc w0 b c r pb t1 G1 w1 k ∧ w.heap.size ≤ k) : Dgo w0 b c r pb Z w t1 G0 G1 w2 m1 s1 := by
  cases e : ro with
  | none => exact h.later ⟨hg.os, hg.tape, hg.output, hg.size, fun k hk => hg.block k hk (by rw [e]; exact fun e => (by cases e))⟩
  | some z =>
    obtain ⟨h1, h2⟩ := hr z e
    exact h.aside (z := z) ⟨hg.os, hg.tape, hg.output, hg.size, fun k hk hne => hg.block k hk (by rw [e]; exact fun e2 => hne (by cases e2; rfl))⟩ h1 (.inr h2)
theorem IRow.grow5 (h : IRow w0 b c r pb t1 G1 w1 B v5 v6 ids fl) (hs : SysE w0 b c r pb po t1 G1 w1 m1 s1) {l' : List Int} (own : OwnI w2 B v' l') (hg : w1.grownBy w2 v5.ownBlock) (hn : v'.ownBlock = v5.ownBlock ∨ v'.ownBlock = some w1.heap.size) : IRow w0 b c r pb t1 G1 w2 B v' v6 l' fl := by
  have keep6 : ∀ k, v6.ownBlock = some k → w2.heap[k]? = w1.heap[k]? := fun k hk => hg.block k (h.o6.lt k hk).2 (fun e => h.ap k e.symm hk)
  refine ⟨own, h.o6.of keep6, fun k hk => ?_, fun k hk => (h.l6 k hk).same hg.size, fun k hk e => ?_⟩
  · rcases hn with e | e
    · rw [e] at hk; exact (h.l5 k hk).same hg.size
    · rw [e] at hk; cases hk; exact hs.locnew (own.lt _ e).2
  · rcases hn with e2 | e2
    · rw [e2] at hk; exact h.ap k hk e
    · rw [e2] at hk; cases hk; have := (h.o6.lt _ e).2; omega
theorem IRow.grow6 (h : IRow w0 b c r pb t1 G1 w1 B v5 v6 ids fl) (hs : SysE w0 b c r pb po t1 G1 w1 m1 s1) {l' : List Bool} (own : OwnB w2 B v' l') (hg : w1.grownBy w2 v6.ownBlock) (hn : v'.ownBlock = v6.ownBlock ∨ v'.ownBlock = some w1.heap.size) : IRow w0 b c r pb t1 G1 w2 B v5 v' ids l' := by
  have keep5 : ∀ k, v5.ownBlock = some k → w2.heap[k]? = w1.heap[k]? := fun k hk => hg.block k (h.o5.lt k hk).2 (fun e => h.ap k hk e.symm)
  refine ⟨h.o5.of keep5, own, fun k hk => (h.l5 k hk).same hg.size, fun k hk => ?_, fun k hk e => ?_⟩
  · rcases hn with e | e
    · rw [e] at hk; exact (h.l6 k hk).same hg.size
    · rw [e] at hk; cases hk; exact hs.locnew (own.lt _ e).2
  · rcases hn with e2 | e2
    · rw [e2] at e; exact h.ap k hk e
    · rw [e2] at e; cases e; have := (h.o5.lt _ hk).2; omega
/-- A flag is stored. -/
theorem IRow.set6 {g n cp : Nat} (h : IRow w0 b c r pb t1 G1 w1 B v5 (.slice (some ⟨g, 0, none⟩) n cp) ids fl) (hs : SysE w0 b c r pb po t1 G1 w1 m1 s1) (j : Nat) (x : Bool) : IRow w0 b c r pb t1 G1 (w1.setCell ⟨g, j, none⟩ (.bool x)) B v5 (.slice (some ⟨g, 0, none⟩) n cp) ids (fl.set j x) := by
  have ho := h.o6
  unfold OwnB at ho
  have hn : n = fl.length := by
    rcases ho.2 with ⟨e, _⟩ | ⟨g', c', cur, e, _⟩
    · cases e
    · cases e; rfl
  subst hn
  obtain ⟨h1, h2⟩ := World.ownsRow.stored ho j (.bool x)
  refine h.grow6 hs ?_ (by exact h2) (.inl rfl)
  unfold OwnB boolRow
  rw [List.length_set, List.map_set]
  exact h1
end
end Go.Proofs.YtgjkkbgdkdipgaaDoor
