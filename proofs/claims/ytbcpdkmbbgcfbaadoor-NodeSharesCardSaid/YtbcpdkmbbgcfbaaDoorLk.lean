/- What a handle leads to, and what each ask makes of it; that there is room. No condition. -/
import Derived.Test.YtbcpdkmbbgcfbaaDoorTn
namespace Go.Proofs.YtbcpdkmbbgcfbaaDoor
open Go.RowKit Go.Op
set_option maxRecDepth 100000

/-- What a handle leads to. -/
def M.look (m : M) (h : Int) : Option Held := (m.at h).map fun px => px.2.held
theorem look_some {m : M} {h : Int} {x : Held} (hl : m.look h = some x) : ∃ p y, m.at h = some (p, y) ∧ y.held = x ∧ m.cells[p]? = some y ∧ y.held.busy = true ∧ (p : Int) = h % 65536 - 1 ∧ y.gen = h / 65536 ∧ isH h = true := by
  unfold M.look at hl
  cases ha : m.at h with
  | none => rw [ha] at hl; cases hl
  | some py =>
    obtain ⟨p, y⟩ := py
    rw [ha] at hl
    simp only [Option.map_some, Option.some.injEq] at hl
    obtain ⟨h1, h2, h3⟩ := at_is ha
    obtain ⟨q1, q2, z, q3, q4, q5⟩ := M.seek_some h1
    rw [h2] at q3
    cases q3
    exact ⟨p, y, rfl, hl, h2, h3, q2, q5, q1⟩
theorem look_of {m : M} {h : Int} {p : Nat} {y : Cl} (hi : isH h = true) (hp : (p : Int) = h % 65536 - 1) (hc : m.cells[p]? = some y) (hb : y.held.busy = true) (hg : y.gen = h / 65536) : m.look h = some y.held := by
  have hs : m.seek h = some p := by
    unfold M.seek
    rw [if_pos hi, show (h % 65536 - 1).toNat = p by omega, hc]
    simp only
    rw [if_pos ⟨hb, hg⟩]
  unfold M.look
  rw [at_some hs hc]
  rfl
theorem look_none {m : M} {h : Int} (hn : ¬ ∃ (p : Nat) (y : Cl), isH h = true ∧ (p : Int) = h % 65536 - 1 ∧ m.cells[p]? = some y ∧ y.held.busy = true ∧ y.gen = h / 65536) : m.look h = none := by
  cases hl : m.look h with
  | none => rfl
  | some x =>
    obtain ⟨p, y, _, _, h3, h4, h5, h6, h7⟩ := look_some hl
    exact absurd ⟨p, y, h7, h5, h3, h4, h6⟩ hn
/-- The same cells. -/
theorem look_cells {m m' : M} (h : m'.cells = m.cells) (k : Int) : m'.look k = m.look k := by
  have hs : m'.seek k = m.seek k := by unfold M.seek; rw [h]
  unfold M.look M.at
  rw [hs, h]
theorem look_ask (m : M) (k : Int) : m.ask.look k = m.look k := look_cells rfl k
/-- A cell that was busy is busy. -/
theorem look_set {m : M} {p : Nat} {x y : Cl} (hx : m.cells[p]? = some x) (hy : y.held.busy = true) (hg : y.gen = x.gen) (n l s : Int) (k : Int) :
    M.look ⟨m.cells.set p y, n, l, s⟩ k = if isH k = true ∧ (p : Int) = k % 65536 - 1 ∧ x.gen = k / 65536 then some y.held else m.look k := by
  have hp := (List.getElem?_eq_some_iff.1 hx).1
  split
  · rename_i h
    exact look_of (m := ⟨m.cells.set p y, n, l, s⟩) h.1 h.2.1 (List.getElem?_set_self hp) hy (by rw [hg]; exact h.2.2)
  · rename_i h
    cases hl : m.look k with
    | none =>
      refine look_none ?_
      rintro ⟨q, z, h1, h2, h3, h4, h5⟩
      by_cases e : p = q
      · subst e
        simp only [List.getElem?_set_self hp, Option.some.injEq] at h3
        subst h3
        exact h ⟨h1, h2, by rw [← hg]; exact h5⟩
      · simp only [List.getElem?_set_ne e] at h3
        rw [look_of h1 h2 h3 h4 h5] at hl
        cases hl
    | some v =>
      obtain ⟨q, z, _, hz, h3, h4, h5, h6, h7⟩ := look_some hl
      have e : p ≠ q := fun e => by
        subst e
        rw [hx] at h3
        cases h3
        exact h ⟨h7, h5, h6⟩
      rw [← hz]
      exact look_of (m := ⟨m.cells.set p y, n, l, s⟩) h7 h5 (by simp only [List.getElem?_set_ne e]; exact h3) h4 h6
theorem look_at {m : M} {h : Int} {p : Nat} {x : Cl} (ha : m.at h = some (p, x)) (k : Int) : (isH k = true ∧ (p : Int) = k % 65536 - 1 ∧ x.gen = k / 65536) ↔ k = h := by
  have hl : m.look h = some x.held := by unfold M.look; rw [ha]; rfl
  obtain ⟨q, z, h1, _, _, _, h5, h6, h7⟩ := look_some hl
  rw [ha] at h1
  cases h1
  constructor
  · rintro ⟨_, h8, h9⟩
    have e1 : k % 65536 = h % 65536 := by omega
    have e2 : k / 65536 = h / 65536 := by omega
    omega
  · rintro rfl
    exact ⟨h7, h5, h6⟩
theorem look_put {m : M} {h : Int} {p : Nat} {x y : Cl} (ha : m.at h = some (p, x)) (hx : m.cells[p]? = some x) (hy : y.held.busy = true) (hg : y.gen = x.gen) (n l s : Int) (k : Int) :
    M.look ⟨m.cells.set p y, n, l, s⟩ k = if k = h then some y.held else m.look k := by
  rw [look_set hx hy hg]
  by_cases e : k = h
  · rw [if_pos e, if_pos ((look_at ha k).2 e)]
  · rw [if_neg e, if_neg fun h2 => e ((look_at ha k).1 h2)]
/-- What holds of memory's counts. -/
structure Tidy (g : Int) (m : M) : Prop where
  gen : ∀ (i : Nat) (x : Cl), m.cells[i]? = some x → 0 ≤ x.gen ∧ x.gen ≤ g
  liv : m.live = ((m.cells.countP fun x => x.held.busy : Nat) : Int)
theorem Tidy.ask {g : Int} {m : M} (h : Tidy g m) : Tidy g m.ask := ⟨h.gen, h.liv⟩
theorem countP_set {l : List Cl} {p : Nat} {x y : Cl} (hx : l[p]? = some x) : ((l.set p y).countP fun z => z.held.busy) + (if x.held.busy = true then 1 else 0) = (l.countP fun z => z.held.busy) + (if y.held.busy = true then 1 else 0) := by
  induction l generalizing p with
  | nil => simp at hx
  | cons a l ih =>
    cases p with
    | zero =>
      simp only [List.getElem?_cons_zero, Option.some.injEq] at hx
      subst hx
      simp only [List.set_cons_zero, List.countP_cons]
      omega
    | succ p =>
      simp only [List.getElem?_cons_succ] at hx
      have := ih hx
      simp only [List.set_cons_succ, List.countP_cons]
      omega
theorem Tidy.set {g g' : Int} {m : M} (h : Tidy g m) {p : Nat} {x y : Cl} (hx : m.cells[p]? = some x) (hg : 0 ≤ y.gen ∧ y.gen ≤ g') (hgg : g ≤ g') (n l s : Int) (hl : l + (if x.held.busy = true then 1 else 0) = m.live + (if y.held.busy = true then 1 else 0)) : Tidy g' ⟨m.cells.set p y, n, l, s⟩ := by
  refine ⟨fun i z hz => ?_, ?_⟩
  · simp only [List.getElem?_set] at hz
    split at hz
    · split at hz
      · cases hz; exact hg
      · cases hz
    · have := h.gen i z hz
      omega
  · have := countP_set (y := y) hx
    have h2 := h.liv
    simp only
    split at hl <;> split at hl <;> simp_all <;> omega
theorem room {g : Int} {m : M} (h : Tidy g m) (hc : g ≤ 16000) (hl : m.live < (m.cells.length : Int)) : ∃ x, m.cells[m.least]? = some x := by
  have hex : ∃ x ∈ m.cells, x.held.busy = false := by
    apply Classical.byContradiction
    intro hn
    have : (m.cells.countP fun x => x.held.busy) = m.cells.length := List.countP_eq_length.2 fun x hx => by
      cases hb : x.held.busy with
      | true => rfl
      | false => exact absurd ⟨x, hx, hb⟩ hn
    have := h.liv
    omega
  obtain ⟨x, hx, hb⟩ := hex
  obtain ⟨i, hi, he⟩ := List.mem_iff_getElem.1 hx
  have hg := h.gen i x (by rw [List.getElem?_eq_getElem hi, he])
  have hcan : x.can = true := by
    unfold Cl.can
    rw [hb]
    simp; omega
  have hlt : m.least < m.flags.length := by
    unfold M.least
    apply List.findIdx_lt_length_of_exists
    refine ⟨x.can, ?_, hcan⟩
    unfold M.flags
    exact List.mem_map_of_mem hx
  have : m.flags.length = m.cells.length := by simp [M.flags]
  exact ⟨_, List.getElem?_eq_getElem (by omega)⟩
section
variable {m : M} {g : Int}
theorem look_word {h n : Int} (hl : m.look h = some (.word n)) : m.word h = (m.ask, n, 0) := by
  obtain ⟨p, y, ha, hy, -⟩ := look_some hl
  unfold M.word
  rw [ha]
  simp only [hy]
theorem look_load {h : Int} {d : Dat} {pl : Pl} (hl : m.look h = some (.blk d pl)) : m.load h = (m.ask, .blk d pl, 0) := by
  obtain ⟨p, y, ha, hy, -⟩ := look_some hl
  unfold M.load
  rw [ha]
  simp only [hy]
theorem swap_no {h o k n : Int} (hl : m.look h = some (.word k)) (hk : k ≠ o) : m.swap h o n = (m.ask, false, 0) := by
  obtain ⟨p, y, ha, hy, -⟩ := look_some hl
  unfold M.swap
  rw [ha]
  simp only [hy]
  rw [if_neg hk]
theorem swap_yes {h o n : Int} (hl : m.look h = some (.word o)) : ∃ m', m.swap h o n = (m', true, 0) ∧ (∀ k, m'.look k = if k = h then some (.word n) else m.look k) ∧ (∀ g, Tidy g m → Tidy g m') ∧ m'.live = m.live ∧ m'.cells.length = m.cells.length ∧ m'.count = m.count + 1 := by
  obtain ⟨p, y, ha, hy, hc, hb, -⟩ := look_some hl
  unfold M.swap
  rw [ha]
  simp only [hy, if_true]
  refine ⟨_, rfl, fun k => ?_, fun g ht => ?_, rfl, by show (m.cells.set _ _).length = _; rw [List.length_set], rfl⟩
  · show M.look ⟨m.cells.set p { y with held := .word n }, _, _, _⟩ k = _
    rw [look_put ha hc (y := { y with held := .word n }) rfl rfl]
  · have hg := ht.gen p y hc
    exact ht.set hc (y := { y with held := .word n }) hg (Int.le_refl _) _ _ _ (by simp only [hb]; rfl)
theorem retire_yes {h s : Int} {x : Held} (hl : m.look h = some x) : ∃ m', m.retire h s = (m', 0) ∧ (∀ k, m'.look k = m.look k) ∧ (∀ g, Tidy g m → Tidy g m') ∧ m'.live = m.live ∧ m'.cells.length = m.cells.length ∧ m'.count = m.count + 1 := by
  obtain ⟨p, y, ha, hy, hc, hb, -⟩ := look_some hl
  unfold M.retire
  rw [ha]
  refine ⟨_, rfl, fun k => ?_, fun g ht => ?_, rfl, by show (m.cells.set _ _).length = _; rw [List.length_set], rfl⟩
  · show M.look ⟨m.cells.set p (y.retired s), _, _, _⟩ k = _
    rw [look_put ha hc (y := y.retired s) hb rfl]
    split
    · rename_i e
      subst e
      rw [hl, ← hy]; rfl
    · rfl
  · have hg := ht.gen p y hc
    exact ht.set hc (y := y.retired s) hg (Int.le_refl _) _ _ _ (by rw [show (y.retired s).held = y.held from rfl]; rfl)
theorem alloc_yes (ht : Tidy g m) (hc : g ≤ 16000) (hl : m.live < (m.cells.length : Int)) (hlen : m.cells.length ≤ 65535) (x : Held) (hx : x.busy = true) :
    ∃ m' h, m.alloc x = (m', h, 0) ∧ m.look h = none ∧ (∀ k, m'.look k = if k = h then some x else m.look k) ∧ Tidy g m' ∧ m'.live = m.live + 1 ∧ m'.cells.length = m.cells.length ∧ m'.count = m.count + 1 ∧ h ≠ 0 := by
  obtain ⟨y, hy⟩ := room ht.ask hc hl
  obtain ⟨c1, c2⟩ := can_is (least_can hy)
  have hp := (List.getElem?_eq_some_iff.1 hy).1
  have hg := ht.gen _ y hy
  have hp2 : m.ask.least < m.cells.length := hp
  unfold M.alloc M.take
  rw [hy]
  have eh : hand (m.ask.least : Int) y.gen = y.gen * 65536 + (m.ask.least : Int) + 1 := by unfold hand; rw [if_pos (by omega)]
  have hi : isH (hand (m.ask.least : Int) y.gen) = true := by rw [eh]; exact decide_eq_true (by omega)
  have hn : m.look (hand (m.ask.least : Int) y.gen) = none := by
    refine look_none ?_
    rintro ⟨q, z, h1, h2, h3, h4, h5⟩
    rw [eh] at h2
    have : q = m.ask.least := by omega
    subst this
    rw [show m.cells[m.ask.least]? = some y from hy] at h3
    cases h3
    rw [c1] at h4; cases h4
  refine ⟨_, _, rfl, hn, fun k => ?_, ?_, rfl, by show (m.cells.set _ _).length = _; rw [List.length_set], rfl, by rw [eh]; omega⟩
  · by_cases e : k = hand (m.ask.least : Int) y.gen
    · rw [if_pos e, e]
      exact look_of (m := ⟨m.cells.set m.ask.least { y with held := x }, _, _, _⟩) hi (by rw [eh]; omega) (List.getElem?_set_self hp2) hx (by rw [eh]; simp only; omega)
    · rw [if_neg e]
      cases hk : m.look k with
      | none =>
        refine look_none ?_
        rintro ⟨q, z, h1, h2, h3, h4, h5⟩
        by_cases e2 : m.ask.least = q
        · subst e2
          replace h3 : (m.cells.set m.ask.least { y with held := x })[m.ask.least]? = some z := h3
          rw [List.getElem?_set_self hp2] at h3
          cases h3
          exact e (by rw [eh]; simp only at h5; omega)
        · replace h3 : (m.cells.set m.ask.least { y with held := x })[q]? = some z := h3
          rw [List.getElem?_set_ne e2] at h3
          rw [look_of h1 h2 h3 h4 h5] at hk
          cases hk
      | some v =>
        obtain ⟨q, z, _, hz, h3, h4, h5, h6, h7⟩ := look_some hk
        have e2 : m.ask.least ≠ q := fun e2 => by
          subst e2
          rw [show m.cells[m.ask.least]? = some y from hy] at h3
          cases h3
          rw [c1] at h4; cases h4
        rw [← hz]
        exact look_of (m := ⟨m.cells.set m.ask.least { y with held := x }, _, _, _⟩) h7 h5 (by simp only [List.getElem?_set_ne e2]; exact h3) h4 h6
  · exact ht.set hy (y := { y with held := x }) hg (Int.le_refl _) _ _ _ (by simp only [c1, hx]; simp [M.ask])
theorem free_yes {h : Int} {x : Held} (ht : Tidy g m) (hl : m.look h = some x) : ∃ m', m.free h = (m', 0) ∧ (∀ k, m'.look k = if k = h then none else m.look k) ∧ Tidy (g + 1) m' ∧ m'.live = m.live - 1 ∧ m'.cells.length = m.cells.length ∧ m'.count = m.count + 1 := by
  obtain ⟨p, y, ha, hy, hc, hb, -⟩ := look_some hl
  have hp := (List.getElem?_eq_some_iff.1 hc).1
  have hg := ht.gen p y hc
  unfold M.free
  rw [ha]
  refine ⟨_, rfl, fun k => ?_, ?_, rfl, by show (m.cells.set _ _).length = _; rw [List.length_set], rfl⟩
  · show M.look ⟨m.cells.set p y.freed, _, _, _⟩ k = _
    split
    · rename_i e
      subst e
      refine look_none ?_
      rintro ⟨q, z, h1, h2, h3, h4, h5⟩
      obtain ⟨-, e2, -⟩ := (look_at ha k).2 rfl
      have : p = q := by omega
      subst this
      rw [show (m.cells.set p y.freed)[p]? = _ from List.getElem?_set_self hp] at h3
      cases h3
      cases h4
    · rename_i e
      cases hk : m.look k with
      | none =>
        refine look_none ?_
        rintro ⟨q, z, h1, h2, h3, h4, h5⟩
        by_cases e2 : p = q
        · subst e2
          rw [show (m.cells.set p y.freed)[p]? = _ from List.getElem?_set_self hp] at h3
          cases h3
          cases h4
        · rw [show (m.cells.set p y.freed)[q]? = _ from List.getElem?_set_ne e2] at h3
          rw [look_of h1 h2 h3 h4 h5] at hk
          cases hk
      | some v =>
        obtain ⟨q, z, _, hz, h3, h4, h5, h6, h7⟩ := look_some hk
        have e2 : p ≠ q := fun e2 => by
          subst e2
          rw [hc] at h3
          cases h3
          exact e ((look_at ha k).1 ⟨h7, h5, h6⟩)
        rw [← hz]
        exact look_of (m := ⟨m.cells.set p y.freed, _, _, _⟩) h7 h5 (by simp only [List.getElem?_set_ne e2]; exact h3) h4 h6
  · exact ht.set hc (y := y.freed) (by simp only [Cl.freed]; omega) (by omega) _ _ _ (by simp only [hb, M.ask]; simp [Cl.freed, Held.busy])
end
theorem new_tidy (n : Nat) : Tidy 0 (M.new n) := by
  refine ⟨fun i x hx => ?_, ?_⟩
  · simp only [M.new, List.getElem?_replicate] at hx
    split at hx
    · cases hx; simp
    · cases hx
  · simp [M.new, List.countP_replicate, Held.busy]
theorem store_yes {m : M} {h o n : Int} (hl : m.look h = some (.word o)) : ∃ m', m.store h n = (m', 0) ∧ (∀ k, m'.look k = if k = h then some (.word n) else m.look k) ∧ (∀ g, Tidy g m → Tidy g m') ∧ m'.live = m.live ∧ m'.cells.length = m.cells.length ∧ m'.count = m.count + 1 := by
  obtain ⟨p, y, ha, hy, hc, hb, -⟩ := look_some hl
  unfold M.store
  rw [ha]
  simp only [hy]
  refine ⟨_, rfl, fun k => ?_, fun g ht => ?_, rfl, by show (m.cells.set _ _).length = _; rw [List.length_set], rfl⟩
  · show M.look ⟨m.cells.set p { y with held := .word n }, _, _, _⟩ k = _
    rw [look_put ha hc (y := { y with held := .word n }) rfl rfl]
  · have hg := ht.gen p y hc
    exact ht.set hc (y := { y with held := .word n }) hg (Int.le_refl _) _ _ _ (by simp only [hb]; rfl)
end Go.Proofs.YtbcpdkmbbgcfbaaDoor
