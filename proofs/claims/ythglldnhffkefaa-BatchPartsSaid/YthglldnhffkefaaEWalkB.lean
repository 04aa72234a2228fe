/- A row of entries of the call's own: one of them set, cut, read. No condition. -/
import Derived.Test.YthglldnhffkefaaEMem
namespace Go.Proofs.Ythglldnhffkefaa
open Go.RowKit Go.Op
set_option maxRecDepth 100000

theorem row_set : ∀ (l : List En) (i : Nat) (e : En), i < l.length → (((enRow l).set (i * 3) (.string e.key)).set (i * 3 + 1) (.string e.val)).set (i * 3 + 2) (.bool e.gone) = enRow (l.set i e)
  | [], i, e, h => by simp at h
  | x :: l, 0, e, h => by
    rw [enRow_cons, List.set_cons_zero, enRow_cons]
    rfl
  | x :: l, i + 1, e, h => by
    have := row_set l i e (by simpa using h)
    rw [enRow_cons, List.set_cons_succ, enRow_cons, ← this]
    rw [show (i + 1) * 3 = i * 3 + 3 by omega, show i * 3 + 3 + 1 = i * 3 + 1 + 3 by omega, show i * 3 + 3 + 2 = i * 3 + 2 + 3 by omega]
    simp only [En.cells, List.cons_append, List.nil_append, List.set_cons_succ]
theorem OwnE.set {T : Nat} {w : World} {base g cap : Nat} {l : List En} (h : OwnE T w base (.slice (some ⟨g, 0, none⟩) l.length cap) l) {i : Nat} (hi : i < l.length) (e : En) :
    OwnE T (((w.setCell ⟨g, i * 3, none⟩ (.string e.key)).setCell ⟨g, i * 3 + 1, none⟩ (.string e.val)).setCell ⟨g, i * 3 + 2, none⟩ (.bool e.gone)) base (.slice (some ⟨g, 0, none⟩) l.length cap) (l.set i e) := by
  have h1 := (World.ownsRow.stored h (i * 3) (.string e.key)).1
  have h2 := (World.ownsRow.stored h1 (i * 3 + 1) (.string e.val)).1
  have h3 := (World.ownsRow.stored h2 (i * 3 + 2) (.bool e.gone)).1
  unfold OwnE
  rw [List.length_set, ← row_set l i e hi]
  exact h3
theorem OwnE.cut {T : Nat} {w : World} {base g cap : Nat} {l : List En} (h : OwnE T w base (.slice (some ⟨g, 0, none⟩) l.length cap) l) {i : Nat} (hi : i ≤ l.length) : OwnE T w base (.slice (some ⟨g, 0, none⟩) i cap) (l.take i) := by
  obtain ⟨h1, h2⟩ := h
  have hl : (l.take i).length = i := by rw [List.length_take]; omega
  refine ⟨enRow_length _, ?_⟩
  rw [hl]
  rcases h2 with ⟨h2, _⟩ | ⟨g', cap', cur, h2, b, c, d1, d2, d3, d4⟩
  · cases h2
  · simp only [Value.slice.injEq, Option.some.injEq, Addr.mk.injEq, and_true, true_and] at h2
    obtain ⟨rfl, rfl⟩ := h2
    refine .inr ⟨g, cap, cur, rfl, b, c, by omega, d2, d3, ?_⟩
    have e : enRow l = enRow (l.take i) ++ enRow (l.drop i) := by rw [← enRow_append, List.take_append_drop]
    have e2 : (cur.toList.take (l.length * 3)).take (i * 3) = cur.toList.take (i * 3) := by rw [List.take_take, Nat.min_eq_left (by omega)]
    rw [← e2, d4, e, List.take_append_of_le_length (by rw [enRow_length, hl]; exact Nat.le_refl _), List.take_of_length_le (by rw [enRow_length, hl]; exact Nat.le_refl _)]
theorem OwnE.cap {T : Nat} {w : World} {base g n cap : Nat} {l : List En} (h : OwnE T w base (.slice (some ⟨g, 0, none⟩) n cap) l) : l.length ≤ cap ∧ cap ≤ maxLen ∧ base ≤ g ∧ g < w.heap.size := by
  obtain ⟨_, h2⟩ := h
  rcases h2 with ⟨h2, _⟩ | ⟨g', cap', cur, h2, b, c, d1, d2, d3, d4⟩
  · cases h2
  · simp only [Value.slice.injEq, Option.some.injEq, Addr.mk.injEq, and_true] at h2
    obtain ⟨rfl, rfl, rfl⟩ := h2
    exact ⟨d1, d2, b, heap_lt c⟩
theorem OwnE.at {T : Nat} {w : World} {base g cap : Nat} {l : List En} (h : OwnE T w base (.slice (some ⟨g, 0, none⟩) l.length cap) l) {i : Nat} (hi : i < l.length) : EnAt w g (i * 3) l[i] := by
  obtain ⟨e1, e2, e3⟩ := enRow_get l i hi
  refine ⟨?_, ?_, ?_⟩
  · rw [World.ownsRow.cellAt h _ (by omega)]; exact e1
  · rw [World.ownsRow.cellAt h _ (by omega)]; exact e2
  · rw [World.ownsRow.cellAt h _ (by omega)]; exact e3
end Go.Proofs.Ythglldnhffkefaa
