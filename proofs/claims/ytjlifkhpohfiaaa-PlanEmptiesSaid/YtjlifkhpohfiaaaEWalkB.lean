/- What slices.DeleteFunc leaves of a row of entries of the call's own, told which are gone. Conditions: at most 1000000 entries. -/
import Derived.Test.YtjlifkhpohfiaaaEWalkA
namespace Go.Proofs.Ytjlifkhpohfiaaa
open Go.RowKit Go.Op
set_option maxRecDepth 100000

theorem row_set : ∀ (l : List En) (i : Nat) (e : En), i < l.length → (((enRow l).set (i * 3) (.string e.key)).set (i * 3 + 1) (.string e.val)).set (i * 3 + 2) (.bool e.gone) = enRow (l.set i e)
  | [], i, e, h => by simp at h
  | x :: l, 0, e, h => by
    rw [enRow_cons, List.set_cons_zero, enRow_cons]
    rfl
  | x :: l, i + 1, e, h => by
    have := row_set l i e (by simpa using h)
    rw [enRow_cons, List.set_cons_succ, enRow_cons, ← this]
    rw [show (i + 1) * 3 = i * 3 + 3 by omega, show i * 3 + 3 + 1 = i * 3 + 1 + 3 by omega, show i * 3 + 3 + 2 = i * 3 + 2 + 3 by omega]
    simp only [En.cells, List.cons_append, List.nil_append, List.set_cons_succ]
theorem OwnE.set {T : Nat} {w : World} {base g cap : Nat} {l : List En} (h : OwnE T w base (.slice (some ⟨g, 0, none⟩) l.length cap) l) {i : Nat} (hi : i < l.length) (e : En) :
    OwnE T (((w.setCell ⟨g, i * 3, none⟩ (.string e.key)).setCell ⟨g, i * 3 + 1, none⟩ (.string e.val)).setCell ⟨g, i * 3 + 2, none⟩ (.bool e.gone)) base (.slice (some ⟨g, 0, none⟩) l.length cap) (l.set i e) := by
  have h1 := (World.ownsRow.stored h (i * 3) (.string e.key)).1
  have h2 := (World.ownsRow.stored h1 (i * 3 + 1) (.string e.val)).1
  have h3 := (World.ownsRow.stored h2 (i * 3 + 2) (.bool e.gone)).1
  unfold OwnE
  rw [List.length_set, ← row_set l i e hi]
  exact h3
theorem OwnE.cut {T : Nat} {w : World} {base g cap : Nat} {l : List En} (h : OwnE T w base (.slice (some ⟨g, 0, none⟩) l.length cap) l) {i : Nat} (hi : i ≤ l.length) : OwnE T w base (.slice (some ⟨g, 0, none⟩) i cap) (l.take i) := by
  obtain ⟨h1, h2⟩ := h
  have hl : (l.take i).length = i := by rw [List.length_take]; omega
  refine ⟨enRow_length _, ?_⟩
  rw [hl]
  rcases h2 with ⟨h2, _⟩ | ⟨g', cap', cur, h2, b, c, d1, d2, d3, d4⟩
  · cases h2
  · simp only [Value.slice.injEq, Option.some.injEq, Addr.mk.injEq, and_true, true_and] at h2
    obtain ⟨rfl, rfl⟩ := h2
    refine .inr ⟨g, cap, cur, rfl, b, c, by omega, d2, d3, ?_⟩
    have e : enRow l = enRow (l.take i) ++ enRow (l.drop i) := by rw [← enRow_append, List.take_append_drop]
    have e2 : (cur.toList.take (l.length * 3)).take (i * 3) = cur.toList.take (i * 3) := by rw [List.take_take, Nat.min_eq_left (by omega)]
    rw [← e2, d4, e, List.take_append_of_le_length (by rw [enRow_length, hl]; exact Nat.le_refl _), List.take_of_length_le (by rw [enRow_length, hl]; exact Nat.le_refl _)]
theorem OwnE.cap {T : Nat} {w : World} {base g n cap : Nat} {l : List En} (h : OwnE T w base (.slice (some ⟨g, 0, none⟩) n cap) l) : l.length ≤ cap ∧ cap ≤ maxLen ∧ base ≤ g ∧ g < w.heap.size := by
  obtain ⟨_, h2⟩ := h
  rcases h2 with ⟨h2, _⟩ | ⟨g', cap', cur, h2, b, c, d1, d2, d3, d4⟩
  · cases h2
  · simp only [Value.slice.injEq, Option.some.injEq, Addr.mk.injEq, and_true] at h2
    obtain ⟨rfl, rfl, rfl⟩ := h2
    exact ⟨d1, d2, b, heap_lt c⟩
theorem OwnE.at {T : Nat} {w : World} {base g cap : Nat} {l : List En} (h : OwnE T w base (.slice (some ⟨g, 0, none⟩) l.length cap) l) {i : Nat} (hi : i < l.length) : EnAt w g (i * 3) l[i] := by
  obtain ⟨e1, e2, e3⟩ := enRow_get l i hi
  refine ⟨?_, ?_, ?_⟩
  · rw [World.ownsRow.cellAt h _ (by omega)]; exact e1
  · rw [World.ownsRow.cellAt h _ (by omega)]; exact e2
  · rw [World.ownsRow.cellAt h _ (by omega)]; exact e3
def zeros (m : Nat) : List Value := (Builtin.zeroCells (Value.agg #[.string ⟨#[]⟩, .string ⟨#[]⟩, .bool false]).cells m).toList
theorem zeros_length (m : Nat) : (zeros m).length = m * 3 := by
  unfold zeros
  rw [Array.length_toList, size_zeroCells]
  rfl
theorem zeros_one (m : Nat) : ∀ u ∈ zeros m, u.oneCell' = true := by
  intro u hu
  unfold zeros Builtin.zeroCells at hu
  simp only [Array.toList_map, List.mem_map] at hu
  obtain ⟨j, _, rfl⟩ := hu
  have hj : j % 3 < 3 := Nat.mod_lt _ (by decide)
  have e : (Value.agg #[.string ⟨#[]⟩, .string ⟨#[]⟩, .bool false]).cells = #[.string ⟨#[]⟩, .string ⟨#[]⟩, .bool false] := rfl
  rw [e]
  show (#[Value.string ⟨#[]⟩, .string ⟨#[]⟩, .bool false][j % 3]!).oneCell' = true
  generalize j % 3 = r at hj
  match r, hj with
  | 0, _ => rfl
  | 1, _ => rfl
  | 2, _ => rfl
theorem run_clear (w : World) (ty : TypeId) (g off m c : Nat) (hm : 0 < m) (cur : Array Value) (hg : w.heap[g]? = some (.cells cur 77 (0, 0))) (hfit : off + m * 3 ≤ cur.size) :
    (Builtin.clear_ #[72] ty #[.slice (some ⟨g, off, none⟩) m c]).run Try.prog w = .ok (.tuple #[]) (w.setRow g (cur.toList.take off ++ zeros m ++ cur.toList.drop (off + m * 3)).toArray) := by
  have hst := run_storeCells_at Try.prog g off 77 (zeros m) 0 cur w hg (by rw [zeros_length]; exact hfit) (zeros_one m)
  simp only [Nat.add_zero, zeros_length] at hst
  obtain ⟨k, rfl⟩ : ∃ k, m = k + 1 := ⟨m - 1, by omega⟩
  unfold zeros at hst ⊢
  simp [Builtin.clear_, run_underlying Try.underlying72, Try.zeroValue77, hst]
theorem clear_own (w : World) (ty : TypeId) (base g i cap c : Nat) (M : List En) (hi : i < M.length) (hown : OwnE 77 w base (.slice (some ⟨g, 0, none⟩) M.length cap) M) :
    ∃ w', (Builtin.clear_ #[72] ty #[.slice (some ⟨g, i * 3, none⟩) (M.length - i) c]).run Try.prog w = .ok (.tuple #[]) w' ∧ OwnE 77 w' base (.slice (some ⟨g, 0, none⟩) i cap) (M.take i) ∧ w.grownBy w' (some g) := by
  have hcut := OwnE.cut hown (show i ≤ M.length by omega)
  obtain ⟨h1, h2⟩ := hown
  rcases h2 with ⟨h2, _⟩ | ⟨g', cap', cur, h2, b, hc, d1, d2, d3, d4⟩
  · cases h2
  · simp only [Value.slice.injEq, Option.some.injEq, Addr.mk.injEq, and_true, true_and] at h2
    obtain ⟨rfl, rfl⟩ := h2
    refine ⟨_, run_clear w ty g (i * 3) (M.length - i) c (by omega) cur hc (by rw [d3]; omega), ?_, ⟨rfl, rfl, rfl, by simp, fun k _ hk => setRow_other w g k _ (fun e => hk (by rw [e]))⟩⟩
    have hl : (M.take i).length = i := by rw [List.length_take]; omega
    obtain ⟨e1, e2⟩ := hcut
    refine ⟨e1, ?_⟩
    rw [hl] at e2 ⊢
    rcases e2 with ⟨e2, _⟩ | ⟨g', cap', cur', e2, b', hc', f1, f2, f3, f4⟩
    · cases e2
    · simp only [Value.slice.injEq, Option.some.injEq, Addr.mk.injEq, and_true, true_and] at e2
      obtain ⟨rfl, rfl⟩ := e2
      rw [hc] at hc'
      cases hc'
      refine .inr ⟨g, cap, _, rfl, b, setRow_heap w g cur _ 77 _ hc, f1, f2, ?_, ?_⟩
      · simp only [List.size_toArray, List.length_append, List.length_take, List.length_drop, Array.length_toList, zeros_length]
        omega
      · rw [List.append_assoc, List.take_append_of_le_length (by rw [List.length_take, Array.length_toList]; omega), List.take_take, Nat.min_eq_left (by omega)]
        exact f4
end Go.Proofs.Ytjlifkhpohfiaaa
