/- What is made, with room enough, and undone again: ghosts. No condition. -/
import Derived.Test.YtbcpdkmbbgcfbaaDoorNx
namespace Go.Proofs.YtbcpdkmbbgcfbaaDoor
open Go.RowKit Go.Op
set_option maxRecDepth 100000

/-- What lay, with room enough, makes of memory. -/
structure LaidW (m : M) (g : Int) (x : Held) (ws : List Int) (h : Int) (cs : List Int) (m' : M) : Prop where
  len : cs.length = ws.length
  nd : (h :: cs).Nodup
  free : ∀ k, k ∈ h :: cs → m.look k = none
  at_ : m'.look h = some x
  words : ∀ (i : Nat) (c y : Int), cs[i]? = some c → ws[i]? = some y → m'.look c = some (.word y)
  other : ∀ k, k ∉ h :: cs → m'.look k = m.look k
  tidy : Tidy g m'
  live : m'.live = m.live + (ws.length : Int) + 1
  size : m'.cells.length = m.cells.length
  cnt : m'.count = m.count + (ws.length : Int) + 1
  nz : h ≠ 0
theorem layW_yes (mk : List Int → Dat) : ∀ (ws done : List Int) {g : Int} {m : M}, Tidy g m → g ≤ 16000 → m.live + (ws.length : Int) + 1 ≤ (m.cells.length : Int) → m.cells.length ≤ 65535 →
    ∃ h cs m', (layW mk done ws).go m = ((h, 0), m') ∧ LaidW m g (.blk (mk (done ++ cs)) .nil) ws h cs m'
  | [], done, g, m, ht, hg, hl, hlen => by
    simp only [List.length_nil] at hl
    obtain ⟨h, m1, e1, a1, a2, a3, a4, a5, a6, a7⟩ := alloc_go ht hg (by omega) hlen (.blk (mk done) .nil) rfl
    refine ⟨h, [], m1, ?_, rfl, by simp, fun k hk => ?_, by rw [a3, if_pos rfl, List.append_nil], fun i c y hc => by simp at hc, fun k hk => ?_, a4, by simp; omega, a6, by simp; omega, a2⟩
    · rw [layW_nil]
      simp only [Pr.go, e1, if_true]
    · simp only [List.mem_cons, List.not_mem_nil, or_false] at hk
      rw [hk]; exact a1
    · simp only [List.mem_cons, List.not_mem_nil, or_false] at hk
      rw [a3, if_neg hk]
  | w :: ws, done, g, m, ht, hg, hl, hlen => by
    simp only [List.length_cons] at hl
    obtain ⟨c, m1, e1, a1, a2, a3, a4, a5, a6, a7⟩ := alloc_go ht hg (by omega) hlen (.word w) rfl
    obtain ⟨h, cs, m2, e2, b⟩ := layW_yes mk ws (done ++ [c]) a4 hg (by omega) (by omega)
    have hc : m1.look c = some (.word w) := by rw [a3, if_pos rfl]
    have hnc : c ∉ h :: cs := fun e => by rw [b.free c e] at hc; cases hc
    have hne : ∀ k, k ∈ h :: cs → k ≠ c := fun k hk e => hnc (e ▸ hk)
    have hnc2 : c ≠ h ∧ c ∉ cs := ⟨fun e => hnc (by rw [e]; exact List.mem_cons_self), fun e => hnc (List.mem_cons_of_mem _ e)⟩
    have hnd := List.nodup_cons.1 b.nd
    refine ⟨h, c :: cs, m2, ?_, by simp only [List.length_cons]; rw [b.len], ?_, fun k hk => ?_, ?_, fun i d y hd hy => ?_, fun k hk => ?_, b.tidy, by rw [b.live, a5]; simp only [List.length_cons]; omega, by rw [b.size, a6], by rw [b.cnt, a7]; simp only [List.length_cons]; omega, b.nz⟩
    · rw [layW_cons]
      simp only [Pr.go, e1, if_true]
      exact e2
    · refine List.nodup_cons.2 ⟨fun e => ?_, List.nodup_cons.2 ⟨hnc2.2, hnd.2⟩⟩
      rcases List.mem_cons.1 e with e | e
      · exact hnc2.1 e.symm
      · exact hnd.1 e
    · have hk2 : k = c ∨ k ∈ h :: cs := by
        simp only [List.mem_cons] at hk ⊢
        rcases hk with e | e | e
        · exact .inr (.inl e)
        · exact .inl e
        · exact .inr (.inr e)
      rcases hk2 with rfl | hk2
      · exact a1
      · have := b.free k hk2
        rwa [a3, if_neg (hne k hk2)] at this
    · rw [b.at_, List.append_assoc]; rfl
    · cases i with
      | zero =>
        simp at hd hy
        subst hd hy
        rw [b.other _ hnc, hc]
      | succ i => exact b.words i d y (by simpa using hd) (by simpa using hy)
    · have hk2 : k ≠ c ∧ k ∉ h :: cs := by
        simp only [List.mem_cons, not_or] at hk ⊢
        exact ⟨hk.2.1, hk.1, hk.2.2⟩
      rw [b.other k hk2.2, a3, if_neg hk2.1]
theorem words_go : ∀ (l : List Int) (m : M), (∀ k, k ∈ l → ∃ x, m.look k = some (.word x)) → ∃ m', (wordsP l).go m = (0, m') ∧ AskN m m' (l.length : Int)
  | [], m, _ => ⟨m, rfl, AskN.refl m⟩
  | k :: l, m, h => by
    obtain ⟨x, hx⟩ := h k List.mem_cons_self
    obtain ⟨m', e, a⟩ := words_go l m.ask fun j hj => by rw [look_ask]; exact h j (List.mem_cons_of_mem _ hj)
    refine ⟨m', ?_, ((AskN.ask m).trans a).le (by simp only [List.length_cons]; omega)⟩
    rw [wordsP_cons]
    simp only [Pr.go, Qn.on, look_word hx, if_true]
    exact e
/-- What was made is undone. -/
theorem undoP_go {m : M} {g : Int} {h : Int} {l : List Int} {x : Held} (ht : Tidy g m) (hx : m.look h = some x) (hn : (h :: l).Nodup) (hw : ∀ k, k ∈ l → ∃ x, m.look k = some (.word x)) :
    ∃ m', (undoP h l).go m = (0, m') ∧ (∀ k, m'.look k = if k ∈ h :: l then none else m.look k) ∧ m'.live = m.live - (l.length : Int) - 1 ∧ m'.cells.length = m.cells.length ∧ m'.count ≤ m.count + 2 * (l.length : Int) + 1 ∧ m.count ≤ m'.count ∧ Tidy (g + (l.length : Int) + 1) m' := by
  have hnd := List.nodup_cons.1 hn
  obtain ⟨m1, e1, a1⟩ := words_go l m hw
  obtain ⟨m2, e2, t2, l2, c2, k2, n2⟩ := free_go l (a1.tidy ht) hnd.2 fun k hk => by
    obtain ⟨y, hy⟩ := hw k hk
    exact ⟨_, (a1.look k).trans hy⟩
  have hh2 : m2.look h = some x := by rw [k2, if_neg hnd.1, a1.look, hx]
  obtain ⟨m3, e3, k3, t3, l3, c3, n3⟩ := free_yes t2 hh2
  have q1 := a1.cnt
  have q2 := a1.mono
  refine ⟨m3, ?_, fun k => ?_, by rw [l3, l2, a1.live], by rw [c3, c2, a1.cells], by omega, by omega, t3⟩
  · rw [undoP, Pr.go_bind, e1]
    simp only [if_true]
    rw [lastP, Pr.go_bind, e2]
    simp only [if_true, Pr.go, Qn.on, e3]
  · rw [k3, k2, a1.look]
    by_cases e : k = h
    · rw [if_pos e, if_pos (by rw [e]; exact List.mem_cons_self)]
    · rw [if_neg e]
      by_cases e2 : k ∈ l
      · rw [if_pos e2, if_pos (List.mem_cons_of_mem _ e2)]
      · rw [if_neg e2, if_neg (fun h2 => (List.mem_cons.1 h2).elim e e2)]
theorem undoN_go {m : M} {g : Int} {h hd : Int} {low : ByteArray} {nx : List Int} (ht : Tidy g m) (hx : m.look h = some (.blk (.node low hd nx) .nil)) (hn : (h :: hd :: nx).Nodup) (hw : ∀ k, k ∈ hd :: nx → ∃ x, m.look k = some (.word x)) :
    ∃ m', (undoNP h).go m = (0, m') ∧ (∀ k, m'.look k = if k ∈ h :: hd :: nx then none else m.look k) ∧ m'.live = m.live - (nx.length : Int) - 2 ∧ m'.cells.length = m.cells.length ∧ m'.count ≤ m.count + 2 * (nx.length : Int) + 4 ∧ m.count ≤ m'.count ∧ Tidy (g + (nx.length : Int) + 2) m' := by
  obtain ⟨m', e, a1, a2, a3, a4, a5, a6⟩ := undoP_go ht.ask ((look_ask m h).trans hx) hn fun k hk => by rw [look_ask]; exact hw k hk
  have q : m.ask.count = m.count + 1 := rfl
  have q2 : m.ask.live = m.live := rfl
  simp only [List.length_cons] at a2 a4 a6
  refine ⟨m', ?_, fun k => by rw [a1, look_ask], by rw [a2, q2]; omega, by rw [a3]; rfl, by omega, by omega, by rw [show g + (nx.length : Int) + 2 = g + ((nx.length + 1 : Nat) : Int) + 1 by omega]; exact a6⟩
  rw [undoNP, Pr.go_bind, node_go hx]
  simp only [if_true]
  exact e
theorem lift_go {m : M} {g : Int} {h p : Int} {r : Rv} (ht : Tidy g m) (hx : m.look h = some (.blk (.age r p) .nil)) (hn : h ≠ p) {x : Int} (hw : m.look p = some (.word x)) :
    ∃ m', (liftP h).go m = (0, m') ∧ m'.live = m.live - 2 ∧ m'.count ≤ m.count + 4 ∧ m.count ≤ m'.count := by
  obtain ⟨m', e, a1, a2, a3, a4, a5, a6⟩ := undoP_go (l := [p]) ht.ask ((look_ask m h).trans hx) (by simpa using hn) fun k hk => by
    simp only [List.mem_cons, List.not_mem_nil, or_false] at hk
    subst hk
    exact ⟨x, (look_ask m k).trans hw⟩
  have q : m.ask.count = m.count + 1 := rfl
  have q2 : m.ask.live = m.live := rfl
  simp only [List.length_cons, List.length_nil] at a2 a4
  refine ⟨m', ?_, by rw [a2, q2]; omega, by omega, by omega⟩
  rw [liftP, Pr.go_bind, takeA_go hx]
  simp only [if_true]
  exact e
end Go.Proofs.YtbcpdkmbbgcfbaaDoor
