/- Whatever is asked of it, memory keeps its generations in their bounds; each call counts one; that the law is awake. Condition: the library's table stands. -/
import Derived.Test.YteiikkkcjpfapaaDoorWalkG
namespace Go.Proofs.YteiikkkcjpfapaaDoor
open Go.RowKit Go.Op
set_option maxRecDepth 100000

def Cl.fine (x : Cl) : Prop := 0 ≤ x.gen ∧ x.gen ≤ 16384 ∧ (x.ret = true → x.held.busy = true) ∧ (x.held.busy = true → x.gen ≤ 16383)
theorem fine_set {L : List Cl} (h : ∀ (i : Nat) (x : Cl), L[i]? = some x → x.fine) {p : Nat} {y : Cl} (hy : y.fine) : ∀ (i : Nat) (x : Cl), (L.set p y)[i]? = some x → x.fine := by
  intro i x hx
  rw [List.getElem?_set] at hx
  split at hx
  · split at hx
    · cases hx; exact hy
    · cases hx
  · exact h i x hx
theorem least_can {m : M} {x : Cl} (hx : m.cells[m.least]? = some x) : x.can = true := by
  have h1 := flags_at hx
  have h2 : m.flags.findIdx id < m.flags.length := by
    have := (List.getElem?_eq_some_iff.1 h1).1
    exact this
  have h3 := List.findIdx_getElem (p := id) (xs := m.flags) (w := h2)
  have h4 : m.flags[m.flags.findIdx id] = x.can := (List.getElem?_eq_some_iff.1 h1).2
  rw [h4] at h3
  exact h3
theorem can_is {x : Cl} (h : x.can = true) : x.held.busy = false ∧ x.gen ≤ 16383 := by
  unfold Cl.can at h
  rw [Bool.and_eq_true, Bool.not_eq_true', decide_eq_true_eq] at h
  exact h
theorem M.Ok.put {N : Int} {m : M} (h : m.Ok N) {p : Nat} {y : Cl} (hy : y.fine) : (m.put p y).Ok N :=
  ⟨by show (m.cells.set p y).length ≤ _; rw [List.length_set]; exact h.len, fine_set h.gen hy, h.cnt, h.liv, h.stl⟩
theorem M.Ok.drop {N : Int} {m : M} (h : m.ask.Ok N) {p : Nat} {x : Cl} (hx : m.cells[p]? = some x) (hb : x.held.busy = true) (hl : -N ≤ m.live - 1) : (m.ask.drop p x).Ok N := by
  obtain ⟨h1, _, _, h4⟩ := h.gen p x hx
  have := h4 hb
  have hv := h.liv
  simp only [M.ask] at hv
  exact ⟨by show (m.cells.set p x.freed).length ≤ _; rw [List.length_set]; exact h.len, fine_set h.gen ⟨by simp only [Cl.freed]; omega, by simp only [Cl.freed]; omega, fun e => (by cases e), fun e => (by cases e)⟩, h.cnt, ⟨hl, by simp only [M.drop, M.ask]; omega⟩, h.stl⟩
theorem M.Ok.alloc {N : Int} {m : M} (h : m.Ok N) {t : Held} : (m.alloc t).1.Ok (N + 1) := by
  unfold M.alloc M.take
  have ha := h.ask
  split
  · rename_i x hx
    obtain ⟨_, hg⟩ := can_is (least_can hx)
    obtain ⟨g1, g2, _, _⟩ := ha.gen _ x hx
    have hv := h.liv
    have hr : x.ret = false := by
      cases hr : x.ret
      · rfl
      · have := (ha.gen _ x hx).2.2.1 hr
        rw [(can_is (least_can hx)).1] at this
        cases this
    exact ⟨by show (m.ask.cells.set _ _).length ≤ _; rw [List.length_set]; exact ha.len, fine_set ha.gen ⟨g1, g2, fun e => (by rw [hr] at e; cases e), fun _ => hg⟩, ha.cnt, by simp only [M.ask]; omega, ha.stl⟩
  · exact ha
theorem at_is {m : M} {h : Int} {p : Nat} {x : Cl} (ha : m.at h = some (p, x)) : m.seek h = some p ∧ m.cells[p]? = some x ∧ x.held.busy = true := by
  unfold M.at at ha
  cases hs : m.seek h with
  | none => rw [hs] at ha; cases ha
  | some q =>
    obtain ⟨_, _, y, hy, hb, _⟩ := M.seek_some hs
    rw [hs] at ha
    simp only [Option.bind_some, hy, Option.map_some, Option.some.injEq, Prod.mk.injEq] at ha
    obtain ⟨rfl, rfl⟩ := ha
    exact ⟨rfl, hy, hb⟩
theorem M.Ok.load {N : Int} {m : M} (h : m.Ok N) (a : Int) : (m.load a).1.Ok (N + 1) := by
  unfold M.load
  split
  · exact h.miss
  · split
    all_goals exact h.ask
theorem M.Ok.word {N : Int} {m : M} (h : m.Ok N) (a : Int) : (m.word a).1.Ok (N + 1) := by
  unfold M.word
  split
  · exact h.miss
  · split
    · exact h.ask
    · exact h.ask
theorem M.Ok.store {N : Int} {m : M} (h : m.Ok N) (a n : Int) : (m.store a n).1.Ok (N + 1) := by
  unfold M.store
  split
  · exact h.miss
  · rename_i p x ha
    obtain ⟨_, hx, hb⟩ := at_is ha
    obtain ⟨g1, g2, _, g4⟩ := h.gen p x hx
    split
    · exact h.ask.put ⟨g1, g2, fun _ => rfl, fun _ => g4 hb⟩
    · exact h.ask
theorem M.Ok.swap {N : Int} {m : M} (h : m.Ok N) (a o n : Int) : (m.swap a o n).1.Ok (N + 1) := by
  unfold M.swap
  split
  · exact h.miss
  · rename_i p x ha
    obtain ⟨_, hx, hb⟩ := at_is ha
    obtain ⟨g1, g2, _, g4⟩ := h.gen p x hx
    split
    · split
      · exact h.ask.put ⟨g1, g2, fun _ => rfl, fun _ => g4 hb⟩
      · exact h.ask
    · exact h.ask
theorem M.Ok.free {N : Int} {m : M} (h : m.Ok N) (a : Int) : (m.free a).1.Ok (N + 1) := by
  unfold M.free
  split
  · exact h.miss
  · rename_i p x ha
    obtain ⟨_, hx, hb⟩ := at_is ha
    exact h.ask.drop hx hb (by have := h.liv; omega)
theorem M.Ok.retire {N : Int} {m : M} (h : m.Ok N) (a s : Int) : (m.retire a s).1.Ok (N + 1) := by
  unfold M.retire
  split
  · exact h.miss
  · rename_i p x ha
    obtain ⟨_, hx, hb⟩ := at_is ha
    obtain ⟨g1, g2, _, g4⟩ := h.gen p x hx
    exact h.ask.put ⟨g1, g2, fun _ => hb, fun _ => g4 hb⟩
theorem M.Ok.reap {N : Int} {m : M} (h : m.Ok N) (p s : Int) : (m.reap p s).1.Ok (N + 1) := by
  unfold M.reap
  split
  · exact h.ask
  · split
    · rename_i x hx
      split
      · rename_i hr
        exact h.ask.drop hx ((h.gen _ x hx).2.2.1 hr.1) (by have := h.liv; omega)
      · exact h.ask
    · exact h.ask
theorem new_ok (n : Nat) (hn : n ≤ 65535) : (M.new n).Ok 0 := by
  refine ⟨by simpa [M.new] using hn, fun i x hx => ?_, by simp [M.new], by simp [M.new], by simp [M.new]⟩
  simp only [M.new, List.getElem?_replicate] at hx
  split at hx
  · cases hx
    exact ⟨by decide, by decide, fun e => (by cases e), fun e => (by cases e)⟩
  · cases hx

theorem TabAt.lt {w : World} (h : TabAt w) : 0 < w.heap.size := by
  have h0 := h 0 (by decide)
  apply Nat.pos_of_ne_zero
  intro e
  have he : w.heap[0]? = none := by rw [Array.getElem?_eq_none_iff]; omega
  simp [World.cell?, he] at h0
theorem TabAt.below {w w' : World} (h : TabAt w) (hb : Below w.heap.size w w') : TabAt w' := fun j hj => by
  rw [hb.cell (p := ⟨0, j, none⟩) h.lt]; exact h j hj
theorem TabAt.kept {w w' : World} {b c r : Nat} (h : TabAt w) (hk : Kept b c r w w') (hb : b ≠ 0) (hc : c ≠ 0) (hr : r ≠ 0) : TabAt w' := fun j hj => by
  rw [hk.cell (p := ⟨0, j, none⟩) h.lt hb.symm hc.symm hr.symm]; exact h j hj

/-- A memory of the call's own (H: the heap's size when the call began): it stands, at blocks of the call's own; below H all is as it was. -/
structure Has (w0 : World) (b c r : Nat) (N : Int) (w : World) (m : M) : Prop where
  at_ : At w b c r m
  ok : m.Ok N
  below : Below w0.heap.size w0 w
  hb : w0.heap.size ≤ b
  hc : w0.heap.size ≤ c
  hr : w0.heap.size ≤ r
theorem Has.tab {w0 w : World} {b c r : Nat} {N : Int} {m : M} (h : Has w0 b c r N w m) (hT : TabAt w0) : TabAt w ∧ b ≠ 0 ∧ c ≠ 0 ∧ r ≠ 0 := by
  have := hT.lt
  have h1 := h.hb
  have h2 := h.hc
  have h3 := h.hr
  exact ⟨hT.below h.below, by omega, by omega, by omega⟩
theorem Has.step {w0 w w' : World} {b c r : Nat} {N N' : Int} {m m' : M} (h : Has w0 b c r N w m) (ha : At w' b c r m') (hk : Kept b c r w w') (ho : m'.Ok N') : Has w0 b c r N' w' m' :=
  ⟨ha, ho, h.below.trans (hk.below h.below.size h.hb h.hc h.hr), h.hb, h.hc, h.hr⟩
theorem Has.less {w0 w : World} {b c r : Nat} {N N' : Int} {m : M} (h : Has w0 b c r N w m) (hN : N ≤ N') : Has w0 b c r N' w m := ⟨h.at_, h.ok.mono hN, h.below, h.hb, h.hc, h.hr⟩

end Go.Proofs.YteiikkkcjpfapaaDoor
