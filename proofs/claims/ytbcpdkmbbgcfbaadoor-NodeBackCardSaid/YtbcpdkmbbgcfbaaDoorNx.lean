/- What a memory that may be too small makes of lay: all of it, or nothing. Conditions: generations are below 16001. -/
import Derived.Test.YtbcpdkmbbgcfbaaDoorNw
namespace Go.Proofs.YtbcpdkmbbgcfbaaDoor
open Go.RowKit Go.Op
set_option maxRecDepth 100000

theorem alloc_no {g : Int} {m : M} (ht : Tidy g m) (hl : m.live = (m.cells.length : Int)) (x : Held) : m.alloc x = (m.ask, 0, 3) := by
  unfold M.alloc M.take
  have : m.ask.cells[m.ask.least]? = none := by
    cases h : m.ask.cells[m.ask.least]? with
    | none => rfl
    | some y =>
      have hc := (can_is (least_can h)).1
      have hy : y ∈ m.cells := List.mem_of_getElem? h
      have h1 := ht.liv
      have h2 : (m.cells.countP fun x => x.held.busy) = m.cells.length := by omega
      have h3 := List.countP_eq_length.1 h2 y hy
      rw [hc] at h3
      cases h3
  rw [this]
theorem free_go : ∀ (l : List Int) {g : Int} {m : M}, Tidy g m → l.Nodup → (∀ h ∈ l, ∃ x, m.look h = some x) →
    ∃ m', (freeP l).go m = (0, m') ∧ Tidy (g + l.length) m' ∧ m'.live = m.live - l.length ∧ m'.cells.length = m.cells.length ∧ (∀ h, m'.look h = if h ∈ l then none else m.look h) ∧ m'.count = m.count + l.length
  | [], g, m, ht, _, _ => ⟨m, rfl, by simpa using ht, by simp, rfl, fun h => by simp, by simp⟩
  | k :: l, g, m, ht, hn, hl => by
    obtain ⟨x, hx⟩ := hl k (List.mem_cons_self ..)
    obtain ⟨m1, e1, k1, t1, l1, c1, n1⟩ := free_yes ht hx
    have hnd := List.nodup_cons.1 hn
    obtain ⟨m2, e2, t2, l2, c2, k2, n2⟩ := free_go l t1 hnd.2 (fun h hh => by
      rw [k1, if_neg (fun e => hnd.1 (by rw [← e]; exact hh))]
      exact hl h (List.mem_cons_of_mem _ hh))
    refine ⟨m2, ?_, ?_, by rw [l2, l1]; simp; omega, by rw [c2, c1], fun h => ?_, by rw [n2, n1]; simp; omega⟩
    · rw [freeP_cons]
      simp only [Pr.go, Qn.on, e1, if_true]
      exact e2
    · have : g + 1 + (l.length : Int) = g + ((k :: l).length : Int) := by simp; omega
      rw [← this]; exact t2
    · rw [k2, k1]
      by_cases e : h = k
      · subst e; simp
      · simp [e]
/-- Lay, whatever room there is. -/
theorem layW_go (mk : List Int → Dat) : ∀ (ws done : List Int) {g : Int} {m : M}, Tidy g m → 0 ≤ g → g + done.length + ws.length ≤ 15000 → m.cells.length ≤ 65535 → m.live ≤ (m.cells.length : Int) → done.Nodup → (∀ h ∈ done, ∃ x, m.look h = some x) →
    ∃ h e m', (layW mk done ws).go m = ((h, e), m') ∧ m'.cells.length = m.cells.length ∧ (∃ g', 0 ≤ g' ∧ g' ≤ g + done.length + ws.length ∧ Tidy g' m') ∧ m'.count ≤ m.count + done.length + 2 * ws.length + 1 ∧
      ((m.live + ws.length + 1 ≤ (m.cells.length : Int) ∧ e = 0 ∧ m'.live = m.live + ws.length + 1) ∨ ((m.cells.length : Int) < m.live + ws.length + 1 ∧ e = 3 ∧ h = 0 ∧ m'.live = m.live - done.length))
  | [], done, g, m, ht, hg0, hg, hlen, hle, hn, hl => by
    by_cases hfull : m.live = (m.cells.length : Int)
    · obtain ⟨m2, e2, t2, l2, c2, k2, q2⟩ := free_go done ht.ask hn (fun h hh => by rw [look_ask]; exact hl h hh)
      refine ⟨0, 3, m2, ?_, c2, ⟨_, by omega, by simp, t2⟩, ?_, .inr ⟨by simp; omega, rfl, rfl, l2⟩⟩
      · rw [layW_nil]
        simp only [Pr.go, Qn.on, alloc_no ht hfull]
        rw [if_neg (by decide), Pr.go_bind, e2]
        rfl
      · have : m.ask.count = m.count + 1 := rfl
        omega
    · obtain ⟨h, m1, e1, n1, z1, k1, t1, l1, c1, q1⟩ := alloc_go ht (by omega) (by omega) hlen (.blk (mk done) .nil) rfl
      refine ⟨h, 0, m1, ?_, c1, ⟨g, hg0, by omega, t1⟩, by simp only [List.length_nil]; omega, .inl ⟨by simp; omega, rfl, by simp; omega⟩⟩
      rw [layW_nil]
      simp only [Pr.go, e1, if_true]
  | w :: ws, done, g, m, ht, hg0, hg, hlen, hle, hn, hl => by
    simp only [List.length_cons] at hg
    by_cases hfull : m.live = (m.cells.length : Int)
    · obtain ⟨m2, e2, t2, l2, c2, k2, q2⟩ := free_go done ht.ask hn (fun h hh => by rw [look_ask]; exact hl h hh)
      refine ⟨0, 3, m2, ?_, c2, ⟨_, by omega, by simp only [List.length_cons]; omega, t2⟩, ?_, .inr ⟨by simp only [List.length_cons]; omega, rfl, rfl, l2⟩⟩
      · rw [layW_cons]
        simp only [Pr.go, Qn.on, alloc_no ht hfull]
        rw [if_neg (by decide), Pr.go_bind, e2]
        rfl
      · have : m.ask.count = m.count + 1 := rfl
        simp only [List.length_cons]
        omega
    · obtain ⟨h, m1, e1, n1, z1, k1, t1, l1, c1, q1⟩ := alloc_go ht (by omega) (by omega) hlen (.word w) rfl
      have hnh : h ∉ done := fun hh => by obtain ⟨x, hx⟩ := hl h hh; rw [n1] at hx; cases hx
      obtain ⟨h', e', m2, e2, c2, ⟨g', r1, r2, r3⟩, q2, hor⟩ := layW_go mk ws (done ++ [h]) t1 hg0 (by simp only [List.length_append, List.length_cons, List.length_nil]; omega) (by omega) (by omega)
        (List.nodup_append.2 ⟨hn, by simp, fun a ha b hb => by simp at hb; subst hb; exact fun e => hnh (e ▸ ha)⟩) (fun x hx => by
          rw [k1]
          split
          · exact ⟨_, rfl⟩
          · rename_i hne
            rcases List.mem_append.1 hx with e | e
            · exact hl x e
            · simp at e; exact absurd e hne)
      simp only [List.length_append, List.length_cons, List.length_nil] at r2 q2 hor
      refine ⟨h', e', m2, ?_, c2.trans c1, ⟨g', r1, by simp only [List.length_cons]; omega, r3⟩, by simp only [List.length_cons]; omega, ?_⟩
      · rw [layW_cons]
        simp only [Pr.go, e1, if_true]
        exact e2
      · simp only [List.length_cons]
        rcases hor with ⟨a1, a2, a3⟩ | ⟨a1, a2, a3, a4⟩
        · exact .inl ⟨by omega, a2, by omega⟩
        · exact .inr ⟨by omega, a2, a3, by omega⟩
end Go.Proofs.YtbcpdkmbbgcfbaaDoor
