/- MemStale's law: at any byte and any acts it answers true. Conditions: the acts can be read; the library's table stands. -/
import Derived.Test.YtnhpcakdnaoekaaDoorLawR
namespace Go.Proofs.YtnhpcakdnaoekaaDoor
open Go.RowKit Go.Op
set_option maxRecDepth 100000

/-- What is true of the handles that were told, and of those of what was freed. -/
structure Fresh (m : M) (told gone : List Int) : Prop where
  td : ∀ h ∈ told, ∃ (p : Nat) (x : Cl), isH h = true ∧ (p : Int) = h % 65536 - 1 ∧ m.cells[p]? = some x ∧ h / 65536 ≤ x.gen ∧ (h / 65536 = x.gen → x.held.busy = true)
  gn : ∀ h ∈ gone, ∃ (p : Nat) (x : Cl), (p : Int) = h % 65536 - 1 ∧ m.cells[p]? = some x ∧ h / 65536 < x.gen
  lv : m.live = (told.length : Int) - (gone.length : Int)
theorem fresh_new (n : Nat) : Fresh (M.new n) [] [] := ⟨fun _ h => (by cases h), fun _ h => (by cases h), rfl⟩
theorem Fresh.same {m m' : M} {told gone : List Int} (h : Fresh m told gone) (h1 : m'.cells = m.cells) (h2 : m'.live = m.live) : Fresh m' told gone :=
  ⟨fun k hk => by rw [h1]; exact h.td k hk, fun k hk => by rw [h1]; exact h.gn k hk, by rw [h2]; exact h.lv⟩
theorem Fresh.stale {m : M} {told gone : List Int} (h : Fresh m told gone) {k : Int} (hk : k ∈ gone) : m.at k = none := by
  obtain ⟨p, x, hp, hx, hg⟩ := h.gn k hk
  have hs : m.seek k = none := by
    unfold M.seek
    split
    · rw [show (k % 65536 - 1).toNat = p by omega, hx]
      simp only
      rw [if_neg (fun e => by omega)]
    · rfl
  exact at_none hs
theorem Fresh.calls {m : M} {told gone : List Int} (h : Fresh m told gone) {k : Int} (hk : k ∈ gone) :
    m.word k = (m.miss, 0, 5) ∧ m.swap k 0 1 = (m.miss, false, 5) ∧ m.free k = (m.miss, 5) ∧ m.retire k 1 = (m.miss, 5) ∧ Fresh m.miss told gone := by
  have ha := h.stale hk
  refine ⟨?_, ?_, ?_, ?_, h.same rfl rfl⟩
  · unfold M.word; rw [ha]
  · unfold M.swap; rw [ha]
  · unfold M.free; rw [ha]
  · unfold M.retire; rw [ha]
theorem Fresh.alloc {m : M} {told gone : List Int} (h : Fresh m told gone) {N : Int} (hO : m.Ok N) (v : Int) :
    ((m.alloc (.word v)).2 = (0, 3) ∧ Fresh (m.alloc (.word v)).1 told gone) ∨ (∃ k, (m.alloc (.word v)).2 = (k, 0) ∧ (∀ y ∈ told, y ≠ k) ∧ Fresh (m.alloc (.word v)).1 (told ++ [k]) gone) := by
  unfold M.alloc M.take
  cases hx : m.ask.cells[m.ask.least]? with
  | none => exact .inl ⟨rfl, h.same rfl rfl⟩
  | some x =>
    right
    obtain ⟨hb, hg⟩ := can_is (least_can hx)
    obtain ⟨g0, _, _, _⟩ := hO.gen _ x hx
    have hl : m.ask.least < m.cells.length := (List.getElem?_eq_some_iff.1 hx).1
    have hlen := hO.len
    have hx2 : m.cells[m.ask.least]? = some x := hx
    generalize m.ask.least = p at *
    have hh : hand (p : Int) x.gen = x.gen * 65536 + p + 1 := by unfold hand; rw [if_pos (by omega)]
    simp only [hh]
    refine ⟨_, rfl, fun y hy e => ?_, ?_⟩
    · obtain ⟨q, z, _, hq, hz, _, hbz⟩ := h.td y hy
      have e1 : q = p := by omega
      subst e1
      rw [hx2] at hz
      cases hz
      have := hbz (by omega)
      rw [hb] at this
      cases this
    · have hset : ∀ (q : Nat) (z : Cl), m.cells[q]? = some z → ∃ z', (m.cells.set p { x with held := .word v })[q]? = some z' ∧ z'.gen = z.gen ∧ (z.held.busy = true → z'.held.busy = true) := by
        intro q z hz
        by_cases e : p = q
        · subst e
          rw [hx2] at hz
          cases hz
          exact ⟨{ x with held := .word v }, List.getElem?_set_self hl, rfl, fun _ => rfl⟩
        · exact ⟨z, by rw [List.getElem?_set_ne e]; exact hz, rfl, id⟩
      refine ⟨fun y hy => ?_, fun y hy => ?_, ?_⟩
      · rcases List.mem_append.1 hy with hy | hy
        · obtain ⟨q, z, h1, h2, h3, h4, h5⟩ := h.td y hy
          obtain ⟨z', k1, k2, k3⟩ := hset q z h3
          exact ⟨q, z', h1, h2, k1, by omega, fun e => k3 (h5 (by omega))⟩
        · rw [List.mem_singleton.1 hy]
          exact ⟨p, { x with held := .word v }, decide_eq_true (by omega), by omega, List.getElem?_set_self hl, by show _ ≤ x.gen; omega, fun _ => rfl⟩
      · obtain ⟨q, z, h2, h3, h4⟩ := h.gn y hy
        obtain ⟨z', k1, k2, _⟩ := hset q z h3
        exact ⟨q, z', h2, k1, by omega⟩
      · show m.live + 1 = _
        rw [h.lv, List.length_append, List.length_singleton]
        omega
theorem Fresh.free {m : M} {told gone : List Int} (h : Fresh m told gone) {k : Int} :
    ((m.free k).2 = 5 ∧ Fresh (m.free k).1 told gone) ∨ ((m.free k).2 = 0 ∧ Fresh (m.free k).1 told (gone ++ [k])) := by
  unfold M.free
  cases ha : m.at k with
  | none => exact .inl ⟨rfl, h.same rfl rfl⟩
  | some px =>
    obtain ⟨p, x⟩ := px
    right
    obtain ⟨hs, hx, _⟩ := at_is ha
    obtain ⟨hi, hp, x', hx', _, hg⟩ := M.seek_some hs
    rw [hx] at hx'
    cases hx'
    have hl : p < m.cells.length := (List.getElem?_eq_some_iff.1 hx).1
    have hset : ∀ (q : Nat) (z : Cl), m.cells[q]? = some z → ∃ z', (m.cells.set p x.freed)[q]? = some z' ∧ ((q = p ∧ z = x ∧ z' = x.freed) ∨ z' = z) := by
      intro q z hz
      by_cases e : p = q
      · subst e
        rw [hx] at hz
        cases hz
        exact ⟨x.freed, List.getElem?_set_self hl, .inl ⟨rfl, rfl, rfl⟩⟩
      · exact ⟨z, by rw [List.getElem?_set_ne e]; exact hz, .inr rfl⟩
    have hfg : x.freed.gen = x.gen + 1 := rfl
    refine ⟨rfl, ⟨fun y hy => ?_, fun y hy => ?_, ?_⟩⟩
    · obtain ⟨q, z, h1, h2, h3, h4, h5⟩ := h.td y hy
      obtain ⟨z', k1, k2⟩ := hset q z h3
      rcases k2 with ⟨rfl, rfl, rfl⟩ | rfl
      · exact ⟨q, _, h1, h2, k1, by omega, fun e => by omega⟩
      · exact ⟨q, _, h1, h2, k1, h4, h5⟩
    · rcases List.mem_append.1 hy with hy | hy
      · obtain ⟨q, z, h2, h3, h4⟩ := h.gn y hy
        obtain ⟨z', k1, k2⟩ := hset q z h3
        rcases k2 with ⟨rfl, rfl, rfl⟩ | rfl
        · exact ⟨q, _, h2, k1, by omega⟩
        · exact ⟨q, _, h2, k1, h4⟩
      · rw [List.mem_singleton.1 hy]
        exact ⟨p, x.freed, hp, List.getElem?_set_self hl, by omega⟩
    · show m.live - 1 = _
      rw [h.lv, List.length_append, List.length_singleton]
      omega

/-- Two rows that don't share a block. -/
def Apart (v u : Value) : Prop := v.ownBlock = none ∨ u.ownBlock = none ∨ v.ownBlock ≠ u.ownBlock
theorem OwnI.grown {w w' : World} {B : Nat} {v u : Value} {l : List Int} (h : OwnI w B v l) (hg : w.grownBy w' u.ownBlock) (ha : Apart v u) : OwnI w' B v l := by
  refine World.ownsRow.kept h hg ?_
  rcases ha with ha | ha | ha
  · exact .inl ha
  · by_cases e : v.ownBlock = none
    · exact .inl e
    · exact .inr (by rw [ha]; exact e)
  · exact .inr ha
theorem Apart.symm {v u : Value} (h : Apart v u) : Apart u v := by
  rcases h with h | h | h
  · exact .inr (.inl h)
  · exact .inl h
  · exact .inr (.inr h.symm)
theorem Apart.grown {w : World} {B : Nat} {v u u' : Value} {l : List Int} (ha : Apart v u) (h : OwnI w B v l) {s : Nat} (hs : w.heap.size ≤ s) (hb : u'.ownBlock = u.ownBlock ∨ u'.ownBlock = some s) : Apart v u' := by
  rcases hb with hb | hb
  · unfold Apart; rw [hb]; exact ha
  · rcases hv : v.ownBlock with _ | k
    · exact .inl hv
    · refine .inr (.inr ?_)
      rw [hv, hb]
      have := (h.lt k hv).2
      intro e
      cases e
      omega
/-- All that stays true of memory and the two rows: B: the first block behind memory's own. -/
structure Stl (w0 : World) (b c r B : Nat) (N : Int) (w : World) (m : M) (told gone : List Int) (tv gv : Value) : Prop where
  has : Has w0 b c r N w m
  fresh : Fresh m told gone
  t : OwnI w B tv told
  g : OwnI w B gv gone
  ap : Apart tv gv
  sz : B ≤ w.heap.size
section
variable {w0 w w' : World} {b c r B : Nat} {N N' : Int} {m m' : M} {told gone : List Int} {tv gv : Value}
theorem Stl.step (h : Stl w0 b c r B N w m told gone tv gv) (hh : Has w0 b c r N' w' m') (hk : Kept b c r w w') (hf : Fresh m' told gone) (hB : b < B ∧ c < B ∧ r < B) : Stl w0 b c r B N' w' m' told gone tv gv :=
  ⟨hh, hf, h.t.kept hk hB, h.g.kept hk hB, h.ap, Nat.le_trans h.sz hk.size⟩
theorem Stl.later (h : Stl w0 b c r B N w m told gone tv gv) (hb : Below w.heap.size w w') : Stl w0 b c r B N w' m told gone tv gv :=
  ⟨h.has.later hb, h.fresh, h.t.below hb, h.g.below hb, h.ap, Nat.le_trans h.sz hb.size⟩
theorem Stl.less (h : Stl w0 b c r B N w m told gone tv gv) (hN : N ≤ N') : Stl w0 b c r B N' w m told gone tv gv :=
  ⟨h.has.less hN, h.fresh, h.t, h.g, h.ap, h.sz⟩
end
theorem own_at {w : World} {B : Nat} {a : Option Addr} {n cp : Nat} {l : List Int} (h : OwnI w B (.slice a n cp) l) (hn : l.length = n) {k : Nat} (hk : k < n) : ∃ g, a = some ⟨g, 0, none⟩ ∧ w.cell? ⟨g, k, none⟩ = some (.int .i64 (l.getD k 0)) := by
  subst hn
  obtain ⟨la, lc, ev, hsee⟩ := h.see
  cases ev
  obtain ⟨g, eg, q⟩ := hsee k hk
  exact ⟨g, eg, by rw [q]; simp [hk]⟩
theorem own_len {w : World} {B : Nat} {v : Value} {l : List Int} (h : OwnI w B v l) : ∃ a cp, v = .slice a l.length cp := by
  obtain ⟨a, cp, e, _⟩ := h.see
  exact ⟨a, cp, e⟩
end Go.Proofs.YtnhpcakdnaoekaaDoor
