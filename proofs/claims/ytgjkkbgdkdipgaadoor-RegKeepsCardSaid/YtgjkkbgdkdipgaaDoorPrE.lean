/- Programs that ask memory, as mathematics; what memory and ports are, their rows' places set aside; what a call by a port comes to. No condition. -/
import Derived.Test.YtgjkkbgdkdipgaaDoorStG
import Derived.Deep.Upon
import Derived.Deep.MidRow
namespace Go.Proofs.YtgjkkbgdkdipgaaDoor
open Go.RowKit Go.Op
set_option maxRecDepth 100000

/-- A program that asks memory. -/
inductive Pr (α : Type) where
  | ret (a : α)
  | ask (q : Qn) (k : An → Pr α)
def Pr.bind {α β : Type} : Pr α → (α → Pr β) → Pr β
  | .ret a, f => f a
  | .ask q k, f => .ask q fun a => (k a).bind f
def Pr.run {α : Type} : Pr α → Pt → M → Option α × Pt × M
  | .ret a, s, m => (some a, s, m)
  | .ask q k, s, m => match s.ask q m with
    | (some a, s', m') => (k a).run s' m'
    | (none, s', m') => (none, s', m')
def Pr.one (q : Qn) : Pr An := .ask q .ret
theorem Pr.run_ask {α : Type} (q : Qn) (k : An → Pr α) (s : Pt) (m : M) : (Pr.ask q k).run s m = match s.ask q m with
    | (some a, s', m') => (k a).run s' m'
    | (none, s', m') => (none, s', m') := by simp only [Pr.run]
theorem Pr.one_run (q : Qn) (s : Pt) (m : M) : (Pr.one q).run s m = s.ask q m := by
  unfold Pr.one
  rw [Pr.run_ask]
  rcases s.ask q m with ⟨_ | a, s', m'⟩
  · rfl
  · simp only [Pr.run]
theorem Pr.run_bind {α β : Type} : ∀ (p : Pr α) (f : α → Pr β) (s : Pt) (m : M), (p.bind f).run s m = match p.run s m with
    | (some a, s', m') => (f a).run s' m'
    | (none, s', m') => (none, s', m')
  | .ret a, f, s, m => by simp only [Pr.bind, Pr.run]
  | .ask q k, f, s, m => by
    simp only [Pr.bind]
    rw [Pr.run_ask, Pr.run_ask]
    rcases s.ask q m with ⟨_ | a, s', m'⟩
    · rfl
    · exact Pr.run_bind (k a) f s' m'
theorem Pr.bind_some {α β : Type} {p : Pr α} {f : α → Pr β} {s s' : Pt} {m m' : M} {a : α} (h : p.run s m = (some a, s', m')) : (p.bind f).run s m = (f a).run s' m' := by
  rw [Pr.run_bind, h]
theorem Pr.bind_none {α β : Type} {p : Pr α} {f : α → Pr β} {s s' : Pt} {m m' : M} (h : p.run s m = (none, s', m')) : (p.bind f).run s m = (none, s', m') := by
  rw [Pr.run_bind, h]

/-- Rows' places, set aside. -/
def Ds.e (d : Ds) : Ds := { d with ad := none, n := 0, cap := 0 }
def Held.e : Held → Held
  | .desc d => .desc d.e
  | x => x
def Cl.e (x : Cl) : Cl := { x with held := x.held.e }
def M.e (m : M) : M := { m with cells := m.cells.map Cl.e }
def An.e (a : An) : An := { a with held := a.held.e }
def Pt.e (s : Pt) : Pt := { s with told := s.told.map An.e }
def Qn.e : Qn → Qn
  | .alloc x => .alloc x.e
  | q => q
theorem Held.e_busy (x : Held) : x.e.busy = x.busy := by cases x <;> rfl
theorem Cl.e_can (x : Cl) : x.e.can = x.can := by
  unfold Cl.can Cl.e
  simp only [Held.e_busy]
theorem M.e_least (m : M) : m.e.least = m.least := by
  unfold M.least M.flags M.e
  simp only [List.map_map]
  have : (Cl.can ∘ Cl.e) = Cl.can := funext Cl.e_can
  rw [this]
theorem M.e_cells (m : M) (i : Nat) : m.e.cells[i]? = (m.cells[i]?).map Cl.e := List.getElem?_map
theorem M.e_seek (m : M) (h : Int) : m.e.seek h = m.seek h := by
  unfold M.seek
  rw [M.e_cells]
  cases m.cells[(h % 65536 - 1).toNat]? with
  | none => rfl
  | some x =>
    show (if _ then (if x.e.held.busy = true ∧ _ then _ else _) else _) = _
    rw [show x.e.held.busy = x.held.busy from Held.e_busy _]
    rfl
theorem M.e_at (m : M) (h : Int) : m.e.at h = (m.at h).map fun px => (px.1, px.2.e) := by
  unfold M.at
  rw [M.e_seek]
  cases m.seek h with
  | none => rfl
  | some p =>
    simp only [Option.bind_some]
    rw [M.e_cells]
    cases m.cells[p]? <;> rfl
theorem M.e_set (l : List Cl) (i : Nat) (x : Cl) : (l.set i x).map Cl.e = (l.map Cl.e).set i x.e := List.map_set
theorem M.e_ask (m : M) : m.ask.e = m.e.ask := rfl
theorem M.e_miss (m : M) : m.miss.e = m.e.miss := rfl
theorem M.e_put (m : M) (p : Nat) (x : Cl) : (m.put p x).e = m.e.put p x.e := by
  unfold M.put M.e
  simp only [M.e_set]
theorem M.e_drop (m : M) (p : Nat) (x : Cl) : (m.drop p x).e = m.e.drop p x.e := by
  unfold M.drop M.e
  simp only [M.e_set]
  rfl
theorem M.e_alloc (m : M) (x : Held) : m.e.alloc x.e = ((m.alloc x).1.e, (m.alloc x).2) := by
  unfold M.alloc M.take
  rw [← M.e_ask, M.e_least, M.e_cells]
  cases m.ask.cells[m.ask.least]? with
  | none => rfl
  | some y =>
    simp only [Option.map_some]
    simp only [M.e, M.ask, M.e_set, Cl.e]
theorem M.e_load (m : M) (h : Int) : m.e.load h = ((m.load h).1.e, (m.load h).2.1.e, (m.load h).2.2) := by
  unfold M.load
  rw [M.e_at]
  cases m.at h with
  | none => rfl
  | some px =>
    obtain ⟨p, x⟩ := px
    obtain ⟨hd, g, r, st⟩ := x
    cases hd <;> rfl
theorem M.e_word (m : M) (h : Int) : m.e.word h = ((m.word h).1.e, (m.word h).2) := by
  unfold M.word
  rw [M.e_at]
  cases m.at h with
  | none => rfl
  | some px =>
    obtain ⟨p, x⟩ := px
    obtain ⟨hd, g, r, st⟩ := x
    cases hd <;> rfl
theorem M.e_store (m : M) (h n : Int) : m.e.store h n = ((m.store h n).1.e, (m.store h n).2) := by
  unfold M.store
  rw [M.e_at]
  cases m.at h with
  | none => rfl
  | some px =>
    obtain ⟨p, x⟩ := px
    obtain ⟨hd, g, r, st⟩ := x
    cases hd with
    | word k =>
      simp only [Option.map_some, Cl.e, Held.e]
      rw [M.e_put]; rfl
    | _ => rfl
theorem M.e_swap (m : M) (h o n : Int) : m.e.swap h o n = ((m.swap h o n).1.e, (m.swap h o n).2) := by
  unfold M.swap
  rw [M.e_at]
  cases m.at h with
  | none => rfl
  | some px =>
    obtain ⟨p, x⟩ := px
    obtain ⟨hd, g, r, st⟩ := x
    cases hd with
    | word k =>
      simp only [Option.map_some, Cl.e, Held.e]
      split
      · rw [M.e_put]; rfl
      · rfl
    | _ => rfl
theorem M.e_free (m : M) (h : Int) : m.e.free h = ((m.free h).1.e, (m.free h).2) := by
  unfold M.free
  rw [M.e_at]
  cases m.at h with
  | none => rfl
  | some px =>
    simp only [Option.map_some]
    rw [M.e_drop]; rfl
theorem M.e_retire (m : M) (h s : Int) : m.e.retire h s = ((m.retire h s).1.e, (m.retire h s).2) := by
  unfold M.retire
  rw [M.e_at]
  cases m.at h with
  | none => rfl
  | some px =>
    simp only [Option.map_some]
    rw [M.e_put]; rfl
theorem M.e_reap (m : M) (p s : Int) : m.e.reap p s = ((m.reap p s).1.e, (m.reap p s).2) := by
  unfold M.reap
  rw [show m.e.cells.length = m.cells.length from List.length_map ..]
  split
  · rfl
  · rw [M.e_cells]
    cases m.cells[p.toNat]? with
    | none => rfl
    | some x =>
      simp only [Option.map_some]
      rw [show x.e.ret = x.ret from rfl, show x.e.stamp = x.stamp from rfl]
      split
      · rw [M.e_drop]; rfl
      · rfl
theorem Qn.e_on (q : Qn) (m : M) : q.e.on m.e = ((q.on m).1.e, (q.on m).2.e) := by
  cases q with
  | alloc x => show (((m.e.alloc x.e).1, (⟨_, (m.e.alloc x.e).2.1, _, (m.e.alloc x.e).2.2⟩ : An)) : M × An) = _; rw [M.e_alloc]; rfl
  | load h => show (((m.e.load h).1, (⟨(m.e.load h).2.1, _, _, (m.e.load h).2.2⟩ : An)) : M × An) = _; rw [M.e_load]; rfl
  | word h => show (((m.e.word h).1, (⟨_, (m.e.word h).2.1, _, (m.e.word h).2.2⟩ : An)) : M × An) = _; rw [M.e_word]; rfl
  | store h n => show (((m.e.store h n).1, (⟨_, _, _, (m.e.store h n).2⟩ : An)) : M × An) = _; rw [M.e_store]; rfl
  | swap h o n => show (((m.e.swap h o n).1, (⟨_, _, (m.e.swap h o n).2.1, (m.e.swap h o n).2.2⟩ : An)) : M × An) = _; rw [M.e_swap]; rfl
  | free h => show (((m.e.free h).1, (⟨_, _, _, (m.e.free h).2⟩ : An)) : M × An) = _; rw [M.e_free]; rfl
  | retire h s => show (((m.e.retire h s).1, (⟨_, _, _, (m.e.retire h s).2⟩ : An)) : M × An) = _; rw [M.e_retire]; rfl
  | reap p s => show (((m.e.reap p s).1, (⟨_, _, (m.e.reap p s).2.1, (m.e.reap p s).2.2⟩ : An)) : M × An) = _; rw [M.e_reap]; rfl
theorem Pt.e_ask (s : Pt) (q : Qn) (m : M) : s.e.ask q.e m.e = ((s.ask q m).1.map An.e, (s.ask q m).2.1.e, (s.ask q m).2.2.e) := by
  have hn : s.e.told[s.e.place]? = (s.told[s.place]?).map An.e := List.getElem?_map
  cases hx : s.told[s.place]? with
  | some a =>
    rw [hx] at hn
    rw [Pt.ask_told hx, Pt.ask_told hn]
    rfl
  | none =>
    rw [hx] at hn
    cases hs : s.spent with
    | true => rw [Pt.ask_halt hx hs, Pt.ask_halt hn hs]; rfl
    | false =>
      cases hk : s.keeps with
      | true =>
        rw [Pt.ask_keep hx hs hk, Pt.ask_keep hn hs hk, Qn.e_on]
        simp only [Pt.e, List.map_append, List.map_cons, List.map_nil, Option.map_some]
      | false => rw [Pt.ask_do hx hs hk, Pt.ask_do hn hs hk, Qn.e_on]; rfl

/-- A descriptor whose row stands among rows that nobody changes. -/
structure Ds.In (G : List (Nat × List Sw)) (d : Ds) : Prop where
  n : d.n = d.sw.length
  cap : d.n ≤ d.cap
  few : d.sw.length ≤ 1000000
  row : d.sw = [] ∨ ∃ g, d.ad = some ⟨g, 0, none⟩ ∧ (g, d.sw) ∈ G
theorem Ds.In.more {G G' : List (Nat × List Sw)} {d : Ds} (h : d.In G) (hg : ∀ x, x ∈ G → x ∈ G') : d.In G' :=
  ⟨h.n, h.cap, h.few, h.row.imp id fun ⟨g, e, hm⟩ => ⟨g, e, hg _ hm⟩⟩
def Held.In (G : List (Nat × List Sw)) (x : Held) : Prop := ∀ d, x = .desc d → d.In G
theorem Held.In.more {G G' : List (Nat × List Sw)} {x : Held} (h : x.In G) (hg : ∀ x, x ∈ G → x ∈ G') : x.In G' := fun d e => (h d e).more hg
def M.In (G : List (Nat × List Sw)) (m : M) : Prop := ∀ (i : Nat) (x : Cl), m.cells[i]? = some x → x.held.In G
theorem M.In.more {G G' : List (Nat × List Sw)} {m : M} (h : m.In G) (hg : ∀ x, x ∈ G → x ∈ G') : m.In G' := fun i x hx => (h i x hx).more hg
def Pt.In (G : List (Nat × List Sw)) (s : Pt) : Prop := ∀ (i : Nat) (a : An), s.told[i]? = some a → a.held.In G
theorem Pt.In.more {G G' : List (Nat × List Sw)} {s : Pt} (h : s.In G) (hg : ∀ x, x ∈ G → x ∈ G') : s.In G' := fun i x hx => (h i x hx).more hg
def Qn.In (G : List (Nat × List Sw)) : Qn → Prop
  | .alloc x => x.In G
  | _ => True
theorem no_in {G : List (Nat × List Sw)} : Held.no.In G := fun _ e => (by cases e)
theorem word_in {G : List (Nat × List Sw)} {n : Int} : (Held.word n).In G := fun _ e => (by cases e)
section
variable {G : List (Nat × List Sw)} {m : M}
theorem in_set {l : List Cl} {p : Nat} {y : Cl} (hl : ∀ (i : Nat) (x : Cl), l[i]? = some x → x.held.In G) (hy : y.held.In G) : ∀ (i : Nat) (x : Cl), (l.set p y)[i]? = some x → x.held.In G := by
  intro i x hx
  rw [List.getElem?_set] at hx
  split at hx
  · split at hx
    · cases hx; exact hy
    · cases hx
  · exact hl i x hx
theorem M.In.at (h : m.In G) {a : Int} {p : Nat} {x : Cl} (ha : m.at a = some (p, x)) : x.held.In G := h p x (at_is ha).2.1
theorem M.In.on (h : m.In G) {q : Qn} (hq : q.In G) : (q.on m).1.In G ∧ (q.on m).2.held.In G := by
  cases q with
  | alloc x =>
    refine ⟨?_, no_in⟩
    show ((m.alloc x).1).In G
    unfold M.alloc M.take
    split
    · exact in_set (l := m.ask.cells) h hq
    · exact h
  | load a =>
    show ((m.load a).1).In G ∧ ((m.load a).2.1).In G
    unfold M.load
    split
    · exact ⟨h, no_in⟩
    · rename_i p x ha
      have := h.at ha
      split
      · rename_i d hd; rw [hd] at this; exact ⟨h, this⟩
      · rename_i d hd; rw [hd] at this; exact ⟨h, this⟩
      · exact ⟨h, no_in⟩
  | word a =>
    refine ⟨?_, no_in⟩
    show ((m.word a).1).In G
    unfold M.word
    split
    · exact h
    · split
      all_goals exact h
  | store a n =>
    refine ⟨?_, no_in⟩
    show ((m.store a n).1).In G
    unfold M.store
    split
    · exact h
    · split
      · exact in_set (l := m.ask.cells) h word_in
      · exact h
  | swap a o n =>
    refine ⟨?_, no_in⟩
    show ((m.swap a o n).1).In G
    unfold M.swap
    split
    · exact h
    · split
      · split
        · exact in_set (l := m.ask.cells) h word_in
        · exact h
      · exact h
  | free a =>
    refine ⟨?_, no_in⟩
    show ((m.free a).1).In G
    unfold M.free
    split
    · exact h
    · exact in_set (l := m.ask.cells) h no_in
  | retire a s =>
    refine ⟨?_, no_in⟩
    show ((m.retire a s).1).In G
    unfold M.retire
    split
    · exact h
    · rename_i p x ha
      exact in_set (l := m.ask.cells) h (show x.held.In G from h.at ha)
  | reap p s =>
    refine ⟨?_, no_in⟩
    show ((m.reap p s).1).In G
    unfold M.reap
    split
    · exact h
    · split
      · split
        · exact in_set (l := m.ask.cells) h no_in
        · exact h
      · exact h
theorem Pt.In.ask {s : Pt} (h : s.In G) (hm : m.In G) {q : Qn} (hq : q.In G) : (∀ a, (s.ask q m).1 = some a → a.held.In G) ∧ (s.ask q m).2.1.In G ∧ (s.ask q m).2.2.In G := by
  cases hx : s.told[s.place]? with
  | some a => rw [Pt.ask_told hx]; exact ⟨fun b e => by cases e; exact h _ _ hx, h, hm⟩
  | none =>
    cases hs : s.spent with
    | true => rw [Pt.ask_halt hx hs]; exact ⟨fun b e => (by cases e), h, hm⟩
    | false =>
      obtain ⟨h1, h2⟩ := hm.on hq
      cases hk : s.keeps with
      | true =>
        rw [Pt.ask_keep hx hs hk]
        refine ⟨fun b e => by cases e; exact h2, fun i a ha => ?_, h1⟩
        simp only [List.getElem?_append] at ha
        split at ha
        · exact h i a ha
        · cases hj : i - s.told.length with
          | zero => rw [hj] at ha; simp at ha; subst ha; exact h2
          | succ n => rw [hj] at ha; simp at ha
      | false => rw [Pt.ask_do hx hs hk]; exact ⟨fun b e => by cases e; exact h2, h, h1⟩
end
theorem on_count (q : Qn) (m : M) : (q.on m).1.count = m.count + 1 := by
  cases q with
  | alloc x => show ((m.alloc x).1).count = _; unfold M.alloc M.take; split <;> rfl
  | load a =>
    show ((m.load a).1).count = _; unfold M.load
    split
    · rfl
    · split <;> rfl
  | word a =>
    show ((m.word a).1).count = _; unfold M.word
    split
    · rfl
    · split <;> rfl
  | store a n =>
    show ((m.store a n).1).count = _; unfold M.store
    split
    · rfl
    · split <;> rfl
  | swap a o n =>
    show ((m.swap a o n).1).count = _; unfold M.swap
    split
    · rfl
    · split
      · split <;> rfl
      · rfl
  | free a => show ((m.free a).1).count = _; unfold M.free; split <;> rfl
  | retire a s => show ((m.retire a s).1).count = _; unfold M.retire; split <;> rfl
  | reap p s =>
    show ((m.reap p s).1).count = _; unfold M.reap
    split
    · rfl
    · split
      · split <;> rfl
      · rfl
theorem on_ok {m : M} (h : m.Ok m.count) (q : Qn) : (q.on m).1.Ok (q.on m).1.count := by
  rw [on_count]
  cases q with
  | alloc x => exact h.alloc
  | load a => exact h.load a
  | word a => exact h.word a
  | store a n => exact h.store a n
  | swap a o n => exact h.swap a o n
  | free a => exact h.free a
  | retire a s => exact h.retire a s
  | reap p s => exact h.reap p s
/-- What an ask leaves of a port and of memory's count. -/
structure Fit (s : Pt) (m : M) : Prop where
  ok : m.Ok m.count
  le : s.place ≤ s.told.length
  len : (s.told.length : Int) ≤ m.count
theorem Fit.ask {s : Pt} {m : M} (h : Fit s m) (q : Qn) : Fit (s.ask q m).2.1 (s.ask q m).2.2 := by
  cases hx : s.told[s.place]? with
  | some a =>
    rw [Pt.ask_told hx]
    have := (List.getElem?_eq_some_iff.1 hx).1
    exact ⟨h.ok, by simp only; omega, h.len⟩
  | none =>
    cases hs : s.spent with
    | true => rw [Pt.ask_halt hx hs]; exact ⟨h.ok, h.le, h.len⟩
    | false =>
      have h1 := on_ok h.ok q
      have h2 := on_count q m
      have h3 := h.le
      have h4 := h.len
      cases hk : s.keeps with
      | true =>
        rw [Pt.ask_keep hx hs hk]
        exact ⟨h1, by simp; omega, by simp; omega⟩
      | false => rw [Pt.ask_do hx hs hk]; exact ⟨h1, h.le, by simp only; omega⟩
theorem ask_count (s : Pt) (q : Qn) (m : M) : m.count ≤ (s.ask q m).2.2.count ∧ (s.ask q m).2.2.count ≤ m.count + 1 ∧ (s.ask q m).2.1.ext = s.ext := by
  cases hx : s.told[s.place]? with
  | some a => rw [Pt.ask_told hx]; exact ⟨Int.le_refl _, by simp only; omega, rfl⟩
  | none =>
    cases hs : s.spent with
    | true => rw [Pt.ask_halt hx hs]; exact ⟨Int.le_refl _, by simp only; omega, rfl⟩
    | false =>
      have h2 := on_count q m
      cases hk : s.keeps with
      | true => rw [Pt.ask_keep hx hs hk]; exact ⟨by simp only; omega, by simp only; omega, rfl⟩
      | false => rw [Pt.ask_do hx hs hk]; exact ⟨by simp only; omega, by simp only; omega, rfl⟩

/-- A port and its memory, rows' places set aside. -/
def SysE (w0 : World) (b c r pb po : Nat) (t : Value) (G : List (Nat × List Sw)) (w : World) (m : M) (s : Pt) : Prop :=
  ∃ m0 s0, Sys w0 b c r m0.count G pb po t w m0 s0 ∧ m0.In G ∧ s0.In G ∧ Fit s0 m0 ∧ m0.e = m ∧ s0.e = s
/-- What stands behind some asks. -/
structure Aft (w0 : World) (b c r pb po : Nat) (t : Value) (G : List (Nat × List Sw)) (w : World) (t' : Value) (G' : List (Nat × List Sw)) (w' : World) (m' : M) (s' : Pt) : Prop where
  sys : SysE w0 b c r pb po t' G' w' m' s'
  but : But5 b c r pb t w w'
  row : Row2 w t t'
  gro : Grow w G G'
/-- How a call by a port ends that does what a program says. -/
def Ev {α : Type} (w0 : World) (b c r pb po : Nat) (t : Value) (G : List (Nat × List Sw)) (w : World) (R : List (Nat × List Sw) → α → Value → Prop) (o : Option α × Pt × M) (e : Ending) (w' : World) : Prop :=
  ∃ t' G', (match o.1 with
    | some a => ∃ v, e = .returned v ∧ R G' a v
    | none => e = Halt pb po) ∧ Aft w0 b c r pb po t G w t' G' w' o.2.2 o.2.1
section
variable {w0 : World} {b c r pb po : Nat} {t t1 t2 : Value} {G G1 G2 : List (Nat × List Sw)} {w w1 w2 : World} {m m1 m2 : M} {s s1 s2 : Pt}
theorem SysE.later (h : SysE w0 b c r pb po t G w m s) (hb : Below w.heap.size w w1) : SysE w0 b c r pb po t G w1 m s := by
  obtain ⟨m0, s0, h1, h2⟩ := h
  exact ⟨m0, s0, h1.later hb, h2⟩
theorem Aft.refl (h : SysE w0 b c r pb po t G w m s) : Aft w0 b c r pb po t G w t G w m s := ⟨h, But5.refl _ _ _ _ _ _, Row2.refl _ _, Grow.refl _ _⟩
theorem Aft.trans (h : Aft w0 b c r pb po t G w t1 G1 w1 m1 s1) (k : Aft w0 b c r pb po t1 G1 w1 t2 G2 w2 m2 s2) : Aft w0 b c r pb po t G w t2 G2 w2 m2 s2 :=
  ⟨k.sys, h.but.next h.row k.but, h.row.next h.but.size k.row, h.gro.trans h.but.size k.gro⟩
theorem Aft.later (h : Aft w0 b c r pb po t G w t1 G1 w1 m1 s1) (hb : Below w1.heap.size w1 w2) : Aft w0 b c r pb po t G w t1 G1 w2 m1 s1 :=
  ⟨h.sys.later hb, h.but.next h.row (But5.of hb), h.row, h.gro⟩
theorem Aft.back (h : Aft w0 b c r pb po t G w1 t1 G1 w2 m1 s1) (hb : Below w.heap.size w w1) : Aft w0 b c r pb po t G w t1 G1 w2 m1 s1 :=
  ⟨h.sys, (But5.of hb).trans h.but, h.row.from hb.size, h.gro.from hb.size⟩
theorem Ev.cases {α : Type} {R : List (Nat × List Sw) → α → Value → Prop} {o : Option α × Pt × M} {e : Ending} (h : Ev w0 b c r pb po t G w R o e w1) :
    (∃ t' G' s' m', o = (none, s', m') ∧ e = Halt pb po ∧ Aft w0 b c r pb po t G w t' G' w1 m' s') ∨ (∃ t' G' s' m' a v, o = (some a, s', m') ∧ e = .returned v ∧ R G' a v ∧ Aft w0 b c r pb po t G w t' G' w1 m' s') := by
  obtain ⟨oa, s', m'⟩ := o
  obtain ⟨t', G', h1, h2⟩ := h
  cases oa with
  | none => exact .inl ⟨t', G', s', m', rfl, h1, h2⟩
  | some a =>
    obtain ⟨v, h3, h4⟩ := h1
    exact .inr ⟨t', G', s', m', a, v, rfl, h3, h4, h2⟩
theorem Ev.ret {α : Type} {R : List (Nat × List Sw) → α → Value → Prop} {o : Option α × Pt × M} {a : α} {v : Value} (ho : o = (some a, s1, m1)) (hR : R G1 a v) (h : Aft w0 b c r pb po t G w t1 G1 w1 m1 s1) : Ev w0 b c r pb po t G w R o (.returned v) w1 := by
  subst ho; exact ⟨t1, G1, ⟨v, rfl, hR⟩, h⟩
theorem Ev.die {α : Type} {R : List (Nat × List Sw) → α → Value → Prop} {o : Option α × Pt × M} (ho : o = (none, s1, m1)) (h : Aft w0 b c r pb po t G w t1 G1 w1 m1 s1) : Ev w0 b c r pb po t G w R o (Halt pb po) w1 := by
  subst ho; exact ⟨t1, G1, rfl, h⟩
/-- A block of the caller's own beside port, memory and rows. -/
structure Loc (w0 : World) (b c r pb : Nat) (t : Value) (G : List (Nat × List Sw)) (w : World) (z : Nat) : Prop where
  lt : z < w.heap.size
  ge : w0.heap.size ≤ z
  ne : z ≠ b ∧ z ≠ c ∧ z ≠ r ∧ z ≠ pb
  nt : t.ownBlock ≠ some z
  ng : ∀ x, x ∈ G → x.1 ≠ z
theorem SysE.fresh (h : SysE w0 b c r pb po t G w m s) (o : Obj) : Loc w0 b c r pb t G (w.alloc o) w.heap.size := by
  obtain ⟨m0, s0, h1, -⟩ := h
  have o := h1.has.at_.own
  have h2 := h1.pt.lt
  have h3 := o.lb
  have h4 := o.lc
  have h5 := o.lr
  exact ⟨by simp, h1.has.below.size, ⟨by omega, by omega, by omega, by omega⟩, fun e => by
    have := (World.ownsRow.lt h1.pt.own _ e).2
    omega, fun x hx e => by
    have := (h1.rows x.1 x.2 hx).1.lt
    omega⟩
theorem Loc.same {z : Nat} (h : Loc w0 b c r pb t G w z) (hs : w.heap.size ≤ w1.heap.size) : Loc w0 b c r pb t G w1 z := ⟨Nat.lt_of_lt_of_le h.lt hs, h.ge, h.ne, h.nt, h.ng⟩
theorem Loc.aft {z : Nat} (h : Loc w0 b c r pb t G w z) (ha : Aft w0 b c r pb po t G w t1 G1 w1 m1 s1) : Loc w0 b c r pb t1 G1 w1 z ∧ w1.heap[z]? = w.heap[z]? := by
  refine ⟨⟨Nat.lt_of_lt_of_le h.lt ha.but.size, h.ge, h.ne, fun e => ?_, fun x hx e => ?_⟩, ha.but.block z h.lt h.ne.1 h.ne.2.1 h.ne.2.2.1 h.ne.2.2.2 (fun e => h.nt e.symm)⟩
  · rcases ha.row z e with e2 | e2
    · exact h.nt e2
    · have := h.lt; omega
  · rcases ha.gro.2 x hx with e2 | e2
    · exact h.ng x e2 e
    · have := h.lt; omega
/-- A change of such a block. -/
theorem SysE.aside {z : Nat} (h : SysE w0 b c r pb po t G w m s) (hk : But z w w1) (hz : Loc w0 b c r pb t G w z) : SysE w0 b c r pb po t G w1 m s := by
  obtain ⟨m0, s0, h1, h2⟩ := h
  have o := h1.has.at_.own
  refine ⟨m0, s0, ⟨h1.has.same hk.size (h1.has.below.trans ⟨hk.os, hk.tape, hk.output, hk.size, fun k hk2 => hk.block k (Nat.lt_of_lt_of_le hk2 h1.has.below.size) (by have := hz.ge; omega)⟩) (hk.block b o.lb hz.ne.1.symm) (hk.block c o.lc hz.ne.2.1.symm) (hk.block r o.lr hz.ne.2.2.1.symm), h1.pt.same (hk.block pb h1.pt.lt hz.ne.2.2.2.symm) (fun k e => hk.block k (World.ownsRow.lt h1.pt.own k e).2 (fun e2 => hz.nt (e2 ▸ e))), h1.nb, h1.tb, h1.hp, fun g l hg => ?_⟩, h2⟩
  obtain ⟨q1, q2⟩ := h1.rows g l hg
  exact ⟨q1.same hk.size (hk.block g q1.lt (hz.ng _ hg)), q2⟩
theorem Aft.aside {z : Nat} (h : Aft w0 b c r pb po t G w t1 G1 w1 m1 s1) (hk : But z w1 w2) (hz : Loc w0 b c r pb t1 G1 w1 z) (hw : w.heap.size ≤ z) : Aft w0 b c r pb po t G w t1 G1 w2 m1 s1 :=
  ⟨h.sys.aside hk hz, ⟨hk.os.trans h.but.os, hk.tape.trans h.but.tape, hk.output.trans h.but.output, Nat.le_trans h.but.size hk.size, fun k hk2 e1 e2 e3 e4 e5 => (hk.block k (Nat.lt_of_lt_of_le hk2 h.but.size) (by omega)).trans (h.but.block k hk2 e1 e2 e3 e4 e5)⟩, h.row, h.gro⟩
end
end Go.Proofs.YtgjkkbgdkdipgaaDoor
/- What a port's asks come to, rows' places set aside; slices.Clone of a row of swaps. Conditions: at most 900000 asks; at most 1000000 swaps. -/
namespace Go.Proofs.YtgjkkbgdkdipgaaDoor
open Go.RowKit Go.Op
set_option maxRecDepth 100000

theorem Ev.mono {α : Type} {w0 : World} {b c r pb po : Nat} {t : Value} {G : List (Nat × List Sw)} {w w1 : World} {R R' : List (Nat × List Sw) → α → Value → Prop} {o : Option α × Pt × M} {e : Ending} (h : Ev w0 b c r pb po t G w R o e w1) (hR : ∀ G' a v, R G' a v → R' G' a v) : Ev w0 b c r pb po t G w R' o e w1 := by
  obtain ⟨oa, s', m'⟩ := o
  obtain ⟨t', G', h1, h2⟩ := h
  refine ⟨t', G', ?_, h2⟩
  cases oa with
  | none => exact h1
  | some a =>
    obtain ⟨v, h3, h4⟩ := h1
    exact ⟨v, h3, hR _ _ _ h4⟩
section
variable {w0 : World} {b c r pb po : Nat} {t : Value} {G : List (Nat × List Sw)} {w : World} {m : M} {s : Pt}
theorem ev_ask {m0 : M} {s0 : Pt} {q : Qn} {e : Ending} {w1 : World} (hm : m0.In G) (hs : s0.In G) (hf : Fit s0 m0) (hq : q.In G) (h : Asked w0 b c r m0.count G pb po t w m0 s0 q e w1) :
    Ev w0 b c r pb po t G w (fun G' a v => ∃ a0 : An, a0.e = a ∧ a0.held.In G' ∧ v = q.ret a0) (s0.e.ask q.e m0.e) e w1 := by
  obtain ⟨t', hE, hS, hB, hR⟩ := h
  rw [Pt.e_ask]
  obtain ⟨i1, i2, i3⟩ := hs.ask hm hq
  have hF := hf.ask q
  have hS' := hS.okof hF.ok
  refine ⟨t', G, ?_, ⟨⟨_, _, hS', i3, i2, hF, rfl, rfl⟩, hB, hR, Grow.refl _ _⟩⟩
  cases ho : (s0.ask q m0).1 with
  | none => rw [ho] at hE; exact hE
  | some a => rw [ho] at hE; exact ⟨_, hE, a, rfl, i1 a ho, rfl⟩
theorem Fit.pok {m0 : M} {s0 : Pt} (h : Fit s0 m0) (hc : m0.count ≤ 900000) : s0.Ok := ⟨h.le, by have := h.len; omega⟩
theorem eword (h : SysE w0 b c r pb po t G w m s) (hc : m.count ≤ 900000) (k : Int) :
    Calls Tryd.prog 62 #[.pointer (some ⟨pb, po, none⟩), .int .i64 k] w fun e w' => Ev w0 b c r pb po t G w (fun _ a v => v = .tuple #[.int .i64 a.n, .int .i64 a.err]) (s.ask (.word k) m) e w' := by
  obtain ⟨m0, s0, hS, hm, hs, hf, rfl, rfl⟩ := h
  have hc : m0.count ≤ 900000 := hc
  refine (pword_any hS (by omega) (hf.pok hc) k).mono fun e w' h => ?_
  exact (ev_ask (q := .word k) hm hs hf trivial h).mono fun G' a v ⟨a0, e, _, hv⟩ => by rw [hv, ← e]; rfl
theorem eload (h : SysE w0 b c r pb po t G w m s) (hc : m.count ≤ 900000) (k : Int) :
    Calls Tryd.prog 92 #[.pointer (some ⟨pb, po, none⟩), .int .i64 k] w fun e w' => Ev w0 b c r pb po t G w (fun G' a v => ∃ x : Held, x.e = a.held ∧ x.In G' ∧ v = .tuple #[x.v, .int .i64 a.err]) (s.ask (.load k) m) e w' := by
  obtain ⟨m0, s0, hS, hm, hs, hf, rfl, rfl⟩ := h
  have hc : m0.count ≤ 900000 := hc
  refine (pload_any hS (by omega) (hf.pok hc) k).mono fun e w' h => ?_
  exact (ev_ask (q := .load k) hm hs hf trivial h).mono fun G' a v ⟨a0, e, hi, hv⟩ => ⟨a0.held, by rw [← e]; rfl, hi, by rw [hv, ← e]; rfl⟩
theorem eallocword (h : SysE w0 b c r pb po t G w m s) (hT : TabAt w0) (hc : m.count ≤ 900000) (k : Int) :
    Calls Tryd.prog 76 #[.pointer (some ⟨pb, po, none⟩), .int .i64 k] w fun e w' => Ev w0 b c r pb po t G w (fun _ a v => v = .tuple #[.int .i64 a.n, .int .i64 a.err]) (s.ask (.alloc (.word k)) m) e w' := by
  obtain ⟨m0, s0, hS, hm, hs, hf, rfl, rfl⟩ := h
  have hc : m0.count ≤ 900000 := hc
  refine (palloc_any hS hT (by omega) (hf.pok hc) k).mono fun e w' h => ?_
  exact (ev_ask (q := .alloc (.word k)) hm hs hf word_in h).mono fun G' a v ⟨a0, e, _, hv⟩ => by rw [hv, ← e]; rfl
theorem ealloctext (h : SysE w0 b c r pb po t G w m s) (hT : TabAt w0) (hc : m.count ≤ 900000) (k : Value) :
    Calls Tryd.prog 91 #[.pointer (some ⟨pb, po, none⟩), .iface 9 k] w fun e w' => Ev w0 b c r pb po t G w (fun _ a v => v = .tuple #[.int .i64 a.n, .int .i64 a.err]) (s.ask (.alloc (.text k)) m) e w' := by
  obtain ⟨m0, s0, hS, hm, hs, hf, rfl, rfl⟩ := h
  have hc : m0.count ≤ 900000 := hc
  refine (palloctext_any hS hT (by omega) (hf.pok hc) k).mono fun e w' h => ?_
  exact (ev_ask (q := .alloc (.text k)) hm hs hf (fun _ e => (by cases e)) h).mono fun G' a v ⟨a0, e, _, hv⟩ => by rw [hv, ← e]; rfl
theorem eallocdesc (h : SysE w0 b c r pb po t G w m s) (hT : TabAt w0) (hc : m.count ≤ 900000) (d : Ds) (hd : d.In G) :
    Calls Tryd.prog 91 #[.pointer (some ⟨pb, po, none⟩), .iface 82 d.v] w fun e w' => Ev w0 b c r pb po t G w (fun _ a v => v = .tuple #[.int .i64 a.n, .int .i64 a.err]) (s.ask (.alloc (.desc d.e)) m) e w' := by
  obtain ⟨m0, s0, hS, hm, hs, hf, rfl, rfl⟩ := h
  have hc : m0.count ≤ 900000 := hc
  refine (pallocdesc_any hS hT (by omega) (hf.pok hc) d).mono fun e w' h => ?_
  exact (ev_ask (q := .alloc (.desc d)) hm hs hf (fun _ e => by cases e; exact hd) h).mono fun G' a v ⟨a0, e, _, hv⟩ => by rw [hv, ← e]; rfl
theorem estore (h : SysE w0 b c r pb po t G w m s) (hc : m.count ≤ 900000) (k n : Int) :
    Calls Tryd.prog 59 #[.pointer (some ⟨pb, po, none⟩), .int .i64 k, .int .i64 n] w fun e w' => Ev w0 b c r pb po t G w (fun _ a v => v = .int .i64 a.err) (s.ask (.store k n) m) e w' := by
  obtain ⟨m0, s0, hS, hm, hs, hf, rfl, rfl⟩ := h
  have hc : m0.count ≤ 900000 := hc
  refine (pstore_any hS (by omega) (hf.pok hc) k n).mono fun e w' h => ?_
  exact (ev_ask (q := .store k n) hm hs hf trivial h).mono fun G' a v ⟨a0, e, _, hv⟩ => by rw [hv, ← e]; rfl
theorem enote (h : SysE w0 b c r pb po t G w m s) (hs : s.halted = false) (n : Int) :
    Calls Tryd.prog 21 #[.pointer (some ⟨pb, po, none⟩), .int .i64 n] w fun e w' => e = .returned (.tuple #[]) ∧ Aft w0 b c r pb po t G w t G w' m { s with noted := n } := by
  obtain ⟨m0, s0, hS, hm, hi, hf, rfl, rfl⟩ := h
  refine (note_any hS.pt hs n).mono ?_
  rintro e w1 ⟨rfl, h1, h2⟩
  exact ⟨rfl, ⟨m0, _, hS.port h1 h2, hm, fun i a ha => hi i a ha, ⟨hf.ok, hf.le, hf.len⟩, rfl, rfl⟩, But5.of1 h2, Row2.refl _ _, Grow.refl _ _⟩
theorem eswap (h : SysE w0 b c r pb po t G w m s) (hc : m.count ≤ 900000) (k o n : Int) :
    Calls Tryd.prog 65 #[.pointer (some ⟨pb, po, none⟩), .int .i64 k, .int .i64 o, .int .i64 n] w fun e w' => Ev w0 b c r pb po t G w (fun _ a v => v = .tuple #[.bool a.ok, .int .i64 a.err]) (s.ask (.swap k o n) m) e w' := by
  obtain ⟨m0, s0, hS, hm, hs, hf, rfl, rfl⟩ := h
  have hc : m0.count ≤ 900000 := hc
  refine (pswap_any hS (by omega) (hf.pok hc) k o n).mono fun e w' h => ?_
  exact (ev_ask (q := .swap k o n) hm hs hf trivial h).mono fun G' a v ⟨a0, e, _, hv⟩ => by rw [hv, ← e]; rfl
theorem efree (h : SysE w0 b c r pb po t G w m s) (hc : m.count ≤ 900000) (k : Int) :
    Calls Tryd.prog 77 #[.pointer (some ⟨pb, po, none⟩), .int .i64 k] w fun e w' => Ev w0 b c r pb po t G w (fun _ a v => v = .int .i64 a.err) (s.ask (.free k) m) e w' := by
  obtain ⟨m0, s0, hS, hm, hs, hf, rfl, rfl⟩ := h
  have hc : m0.count ≤ 900000 := hc
  refine (pfree_any hS (by omega) (hf.pok hc) k).mono fun e w' h => ?_
  exact (ev_ask (q := .free k) hm hs hf trivial h).mono fun G' a v ⟨a0, e, _, hv⟩ => by rw [hv, ← e]; rfl
end

/-- A row's cells. -/
def Sw.row (x : Sw) : List Value := [.int .i64 x.cell, .int .i64 x.old, .int .i64 x.new]
def swRow (l : List Sw) : List Value := l.flatMap Sw.row
theorem swRow_length : ∀ l : List Sw, (swRow l).length = l.length * 3
  | [] => rfl
  | e :: l => by
    have ih := swRow_length l
    simp only [swRow, List.flatMap_cons, List.length_append, List.length_cons] at ih ⊢
    rw [ih, show e.row.length = 3 from rfl]; omega
theorem swRow_get : ∀ (l : List Sw) (k : Nat) (x : Sw), l[k]? = some x → ∀ j, j < 3 → (swRow l)[k * 3 + j]? = (x.row)[j]?
  | [], _, _, hk, _, _ => by simp at hk
  | e :: l, 0, x, hk, j, hj => by
    simp only [List.getElem?_cons_zero, Option.some.injEq] at hk
    subst hk
    simp only [swRow, List.flatMap_cons]
    rw [List.getElem?_append_left (by rw [show e.row.length = 3 from rfl]; omega)]
    simp
  | e :: l, k + 1, x, hk, j, hj => by
    have ih := swRow_get l k x (by simpa using hk) j hj
    simp only [swRow, List.flatMap_cons] at ih ⊢
    rw [List.getElem?_append_right (by rw [show e.row.length = 3 from rfl]; omega), show e.row.length = 3 from rfl, show (k + 1) * 3 + j - 3 = k * 3 + j by omega]
    exact ih
theorem Rw.row {w : World} {g : Nat} {l : List Sw} (h : Rw w g l) : ∀ j v, (swRow l)[j]? = some v → w.cell? ⟨g, j, none⟩ = some v := by
  intro j v hj
  have hl := (List.getElem?_eq_some_iff.1 hj).1
  rw [swRow_length] at hl
  have hk : j / 3 < l.length := by omega
  have hx : l[j / 3]? = some l[j / 3] := List.getElem?_eq_getElem hk
  have h1 := swRow_get l (j / 3) _ hx (j % 3) (by omega)
  rw [show j / 3 * 3 + j % 3 = j by omega, hj] at h1
  obtain ⟨c0, c1, c2⟩ := h.at_ _ _ hx
  have : j % 3 = 0 ∨ j % 3 = 1 ∨ j % 3 = 2 := by omega
  rcases this with e | e | e <;> rw [e] at h1 <;> simp [Sw.row] at h1
  · rw [h1, ← c0]; congr 2; omega
  · rw [h1, ← c1]; congr 2; omega
  · rw [h1, ← c2]; congr 2; omega
theorem rw_of {w : World} {g : Nat} {l : List Sw} (hg : g < w.heap.size) (h : ∀ j v, (swRow l)[j]? = some v → w.cell? ⟨g, j, none⟩ = some v) : Rw w g l :=
  ⟨hg, fun i x hx => ⟨by rw [h (i * 3) (.int .i64 x.cell) (swRow_get l i x hx 0 (by omega))], h _ _ (swRow_get l i x hx 1 (by omega)), h _ _ (swRow_get l i x hx 2 (by omega))⟩⟩
theorem info90 : (Tryd.prog.info? 119).map (fun i => (i.zero, i.size, i.bytes)) = some (some (.agg #[.int .i64 0, .int .i64 0, .int .i64 0]), 3, 24) := by kernel_rfl
/-- What a slice of swaps holds. -/
def SlAt (w : World) (ad : Option Addr) (l : List Sw) : Prop := l = [] ∨ ∃ g, ad = some ⟨g, 0, none⟩ ∧ Rw w g l
/-- A new row. -/
def SlNew (B : Nat) (w : World) (ad : Option Addr) (l : List Sw) : Prop := l = [] ∨ ∃ g, ad = some ⟨g, 0, none⟩ ∧ B ≤ g ∧ Rw w g l
theorem append_run {P : Program} {w : World} {ops : Array Oper} {rest : List Oper} {o : Oper} {a : Act} {Q : Exit → Act → World → Prop} (hgd : o.guard = none) (s x : Operand) (t : TypeId)
    (ho : o.op = .call { callee := .builtin .append, args := #[s, x], argTypes := #[t, t] }) (v y u : Value) (w' : World) (hs : a.eval s = v) (hx : a.eval x = y)
    (hr : ∀ ty, (Builtin.append_ #[t, t] ty #[v, y]).run P w = .ok u w') (h : wpList P ops Q rest (a.put o.dst u) w') : wpList P ops Q (o :: rest) a w := by
  refine wpList_plain hgd fun K hK => ?_
  unfold Oper.wp execOp
  simp only [ho, resolve, invoke, builtin, Sem.run_bind, Sem.run_pure, Result.andThen_ok, List.map_toArray, List.map_cons, List.map_nil, hs, hx, hr]
  exact hK _ _ h
theorem clone_app (w : World) (q : Nat) (ad : Option Addr) (cap : Nat) (l : List Sw) (hl : l.length ≤ 1000000) (hcap : l.length ≤ cap) (hn : ad ≠ none) (h : SlAt w ad l) :
    ∃ ad' cap' w', (∀ ty, (Builtin.append_ #[80, 80] ty #[.slice (some ⟨q, 0, none⟩) 0 0, .slice ad l.length cap]).run Tryd.prog w = .ok (.slice ad' l.length cap') w') ∧ l.length ≤ cap' ∧ Below w.heap.size w w' ∧ SlNew w.heap.size w' ad' l := by
  obtain ⟨i0, hi, hz0, hz1, hz2⟩ := info_parts info90
  rcases h with rfl | ⟨g, rfl, hr⟩
  · obtain ⟨a, rfl⟩ := Option.ne_none_iff_exists'.1 hn
    refine ⟨_, _, _, fun ty => run_append_nothing w 80 80 ty 119 i0 Tryd.underlying80 hi (some ⟨q, 0, none⟩) 0 0 (Nat.le_refl _) _ (Src.ofSlice w Tryd.underlying80 a 0 cap [] (by simp) (fun j u hu => (by simp at hu)) (fun u hu => (by simp at hu))), Nat.le_refl _, Below.refl _ _, .inl rfl⟩
  · by_cases h0 : l = []
    · subst h0
      refine ⟨_, _, _, fun ty => run_append_nothing w 80 80 ty 119 i0 Tryd.underlying80 hi (some ⟨q, 0, none⟩) 0 0 (Nat.le_refl _) _ (Src.ofSlice w Tryd.underlying80 ⟨g, 0, none⟩ 0 cap [] (by simp) (fun j u hu => (by simp at hu)) (fun u hu => (by simp at hu))), Nat.le_refl _, Below.refl _ _, .inl rfl⟩
    · have hp : 0 < l.length := List.length_pos_iff.2 h0
      have hrun := fun ty => run_append_grow (P := Tryd.prog) w 80 ty 119 i0 _ Tryd.underlying80 hi hz0 ⟨q, 0, none⟩ 0 0 [] (by simp) (fun j u hu => (by simp at hu)) ⟨g, 0, none⟩ l.length cap (swRow l) (by rw [swRow_length, hz1]) (fun j u hu => by rw [add_off, Nat.zero_add]; exact hr.row j u hu) (by omega) (by omega) (growslice_fits (by omega) (by rw [hz2]; omega))
      have hge := grownCap_ge w (0 + l.length) 0 119
      simp only [Nat.zero_add] at hrun hge
      refine ⟨_, _, _, hrun, hge, ?_, .inr ⟨w.heap.size, rfl, Nat.le_refl _, rw_of (by simp) fun j u hj => ?_⟩⟩
      · exact (Below.refl w.heap.size w).drew.alloc (Nat.le_refl _) _
      · have hlt := (List.getElem?_eq_some_iff.1 hj).1
        rw [show w.heap.size = w.drew.heap.size from rfl, World.cell?_alloc_new]
        rw [Array.getElem?_append_left (by simp; exact hlt)]
        rw [← hj]
        simp
theorem eq50_no (a : Addr) (n c : Nat) (w : World) : (binOp .eql 80 (.slice (some a) n c) (.slice none 0 0)).run Tryd.prog w = .ok (.bool false) w := by kernel_rfl
theorem eq50_nil (n c : Nat) (w : World) : (binOp .eql 80 (.slice none n c) (.slice none 0 0)).run Tryd.prog w = .ok (.bool true) w := by kernel_rfl
def IsSl (B : Nat) (l : List Sw) (e : Ending) (w' : World) : Prop := ∃ ad cap, e = .returned (.slice ad l.length cap) ∧ l.length ≤ cap ∧ SlNew B w' ad l
theorem clone_any (w : World) (ad : Option Addr) (cap : Nat) (l : List Sw) (hl : l.length ≤ 1000000) (hcap : l.length ≤ cap) (h : SlAt w ad l) :
    Calls Tryd.prog 80 #[.slice ad l.length cap] w fun e w' => IsSl w.heap.size l e w' ∧ Below w.heap.size w w' := by
  cases ad with
  | none =>
    have h0 : l = [] := by
      rcases h with e | ⟨g, e, _⟩
      · exact e
      · cases e
    subst h0
    clear h
    have h1 := eq50_nil
    go_enter Tryd.func80, Tryd.ntmps80
    go_wp2
    go_ret
    exact ⟨⟨none, 0, rfl, Nat.le_refl _, .inl rfl⟩, Below.refl _ _⟩
  | some a =>
    have hb := (Below.refl w.heap.size w).alloc (Nat.le_refl _) (.cells #[] 119)
    have HA := Lib.hid (clone_app (w.alloc (.cells #[] 119)) w.heap.size (some a) cap l hl hcap (by simp) (h.imp id fun ⟨g, e, hr⟩ => ⟨g, e, hr.same hb.size (hb.block g hr.lt)⟩))
    have HB := Lib.hid hb
    have h1 := eq50_no a
    clear h hb hl hcap
    obtain ⟨ad', cap', w2, hrun, h2, h3, h4⟩ := HA.out
    have HE : Hid (IsSl w.heap.size l (.returned (.slice ad' l.length cap')) w2 ∧ Below w.heap.size w w2) :=
      ⟨⟨ad', cap', rfl, h2, h4.imp id fun ⟨g, e, k, r⟩ => ⟨g, e, Nat.le_trans HB.out.size k, r⟩⟩, HB.out.trans (h3.mono HB.out.size)⟩
    clear h2 h3 h4 HA HB
    generalize l.length = n at *
    have HR := Lib.hid hrun
    clear hrun
    go_enter Tryd.func80, Tryd.ntmps80
    go_wp2_with (at_builtin; refine append_run rfl (.tmp 5) (.tmp 6) 80 rfl _ _ _ _ rfl rfl HR.out ?_)
    go_ret
    exact HE.out
end Go.Proofs.YtgjkkbgdkdipgaaDoor
/- A descriptor in a variable; what held and Load come to. Conditions: at most 900000 asks. -/
namespace Go.Proofs.YtgjkkbgdkdipgaaDoor
open Go.RowKit Go.Op
set_option maxRecDepth 100000

def Ds.row (d : Ds) : List Value := [.int .i64 d.ver, .int .i64 d.bf, .int .i64 d.st, .slice d.ad d.n d.cap]
def d0 : Ds := ⟨0, 0, 0, [], none, 0, 0⟩
theorem size52 : (Tryd.prog.info? 82).map (·.size) = some 4 := by kernel_rfl
/-- A descriptor in a variable. -/
structure DVar (w : World) (z : Nat) (d : Ds) : Prop where
  lt : z < w.heap.size
  fz : ∀ i, w.frozen? ⟨z, i, none⟩ = false
  at_ : w.rangeAt z 0 d.row
def dput (w : World) (z : Nat) (d : Ds) : World := w.setCells z 0 d.row
def dobj : Obj := .cells #[.int .i64 0, .int .i64 0, .int .i64 0, .slice none 0 0] 82
section
variable {w w1 : World} {z : Nat} {d : Ds}
theorem DVar.cells (h : DVar w z d) : w.cell? ⟨z, 0, none⟩ = some (.int .i64 d.ver) ∧ w.cell? ⟨z, 1, none⟩ = some (.int .i64 d.bf) ∧ w.cell? ⟨z, 2, none⟩ = some (.int .i64 d.st) ∧ w.cell? ⟨z, 3, none⟩ = some (.slice d.ad d.n d.cap) :=
  ⟨h.at_ 0 _ rfl, h.at_ 1 _ rfl, h.at_ 2 _ rfl, h.at_ 3 _ rfl⟩
theorem DVar.load (h : DVar w z d) : (Instr.loadAt 82 (.pointer (some ⟨z, 0, none⟩))).run Tryd.prog w = .ok d.v w := run_loadAt_mid w z 0 82 d.row _ h.at_ Tryd.underlying82 rfl size52
theorem DVar.loadVar (h : DVar w z d) : (loadVar 82 ⟨z, 0, none⟩).run Tryd.prog w = .ok d.v w := run_loadVar_mid w z 0 82 d.row _ h.at_ Tryd.underlying82 rfl size52
theorem DVar.there (h : DVar w z d) : w.there z 0 4 := fun j hj => ⟨h.at_.isSome j hj, h.fz _⟩
theorem DVar.store (h : DVar w z d) (d' : Ds) : (Instr.storeAt 82 (.pointer (some ⟨z, 0, none⟩)) d'.v).run Tryd.prog w = .ok () (dput w z d') :=
  run_storeAt_mid w z 0 82 d'.row.toArray h.there size52 (all_oneCell_toArray fun v hv => by
    simp [Ds.row] at hv
    rcases hv with rfl | rfl | rfl | rfl <;> rfl)
theorem DVar.put (h : DVar w z d) (d' : Ds) : DVar (dput w z d') z d' :=
  ⟨by unfold dput; rw [Free.size_setCells]; exact h.lt, fun i => by unfold dput; simp only [Ds.row, World.setCells, World.frozen?_setCell]; exact h.fz i, World.rangeAt_setCells_same w z 0 d'.row h.there⟩
theorem DVar.same (h : DVar w z d) (hs : w.heap.size ≤ w1.heap.size) (hb : w1.heap[z]? = w.heap[z]?) : DVar w1 z d :=
  ⟨Nat.lt_of_lt_of_le h.lt hs, fun i => by rw [World.frozen?_of_block (w := w) (a := ⟨z, i, none⟩) hb]; exact h.fz i, fun j v hj => by rw [World.cell?_of_block (w := w) (a := ⟨z, 0 + j, none⟩) hb]; exact h.at_ j v hj⟩
theorem DVar.later (h : DVar w z d) (hb : Below w.heap.size w w1) : DVar w1 z d := h.same hb.size (hb.block z h.lt)
theorem dnew (w : World) : DVar (w.alloc dobj) w.heap.size d0 :=
  ⟨by simp, fun i => World.frozen?_alloc_at _ 82 _ i rfl, fun j v hj => by rw [Nat.zero_add, dobj, World.cell?_alloc_new]; simpa [Ds.row, d0] using hj⟩
def Ds.obj (d : Ds) : Obj := .cells #[.int .i64 d.ver, .int .i64 d.bf, .int .i64 d.st, .slice d.ad d.n d.cap] 82
theorem dnewd (w : World) (d : Ds) : DVar (w.alloc d.obj) w.heap.size d :=
  ⟨by simp, fun i => World.frozen?_alloc_at _ 82 _ i rfl, fun j v hj => by rw [Nat.zero_add, Ds.obj, World.cell?_alloc_new]; simpa [Ds.row] using hj⟩
theorem dput_but (w : World) (z : Nat) (d : Ds) : But z w (dput w z d) := by
  exact ((((But.refl z w).set 0 (.int .i64 d.ver)).set 1 (.int .i64 d.bf)).set 2 (.int .i64 d.st)).set 3 (.slice d.ad d.n d.cap)
theorem dput_size (w : World) (z : Nat) (d : Ds) : (dput w z d).heap.size = w.heap.size := Free.size_setCells ..
end
theorem Aft.cells {w0 : World} {b c r pb po : Nat} {t t1 : Value} {G G1 : List (Nat × List Sw)} {w w1 : World} {m1 : M} {s1 : Pt} {z : Nat} {d : Ds} (ha : Aft w0 b c r pb po t G w t1 G1 w1 m1 s1) (hz : Loc w0 b c r pb t G w z) (h : DVar w z d) : DVar w1 z d ∧ Loc w0 b c r pb t1 G1 w1 z :=
  ⟨h.same ha.but.size (hz.aft ha).2, (hz.aft ha).1⟩
theorem d0_in {G : List (Nat × List Sw)} : d0.In G := ⟨rfl, Nat.le_refl _, by decide, .inl rfl⟩
def heldR (a : An) : Ds × Int := if a.err = 0 then (match a.held with
    | .desc d => (d, 0)
    | _ => (d0, 6)) else (d0, a.err)
def heldP (h : Int) : Pr (Ds × Int) := .ask (.load h) fun a => .ret (heldR a)
def RHeld (G' : List (Nat × List Sw)) (a : Ds × Int) (v : Value) : Prop := ∃ d : Ds, d.e = a.1 ∧ d.In G' ∧ v = .tuple #[d.v, .int .i64 a.2]
theorem as52_yes (v : Value) (w : World) : (Instr.typeAssert (.iface 82 v) 20 82 true).run Tryd.prog w = .ok (.tuple #[v, .bool true]) w := by kernel_rfl
theorem as52_no (w : World) : (Instr.typeAssert .nilIface 20 82 true).run Tryd.prog w = .ok (.tuple #[d0.v, .bool false]) w := by kernel_rfl
theorem as52_word (v : Value) (w : World) : (Instr.typeAssert (.iface 134 v) 20 82 true).run Tryd.prog w = .ok (.tuple #[d0.v, .bool false]) w := by kernel_rfl
theorem as52_text (v : Value) (w : World) : (Instr.typeAssert (.iface 9 v) 20 82 true).run Tryd.prog w = .ok (.tuple #[d0.v, .bool false]) w := by kernel_rfl
/-- What a handle's block is, by assertion. -/
theorem as52_any (x : Held) : ∃ d : Ds, ∃ ok : Bool, (∀ w, (Instr.typeAssert x.v 20 82 true).run Tryd.prog w = .ok (.tuple #[d.v, .bool ok]) w) ∧ (∀ G, x.In G → d.In G) ∧ (if ok = true then (d.e, (0 : Int)) else (d0, 6)) = heldR ⟨x.e, 0, false, 0⟩ ∧ (ok = false → d = d0) := by
  cases x with
  | no => exact ⟨d0, false, as52_no, fun _ _ => d0_in, rfl, fun _ => rfl⟩
  | word n => exact ⟨d0, false, as52_word _, fun _ _ => d0_in, rfl, fun _ => rfl⟩
  | desc d => exact ⟨d, true, as52_yes _, fun G h => h d rfl, rfl, fun e => (by cases e)⟩
  | text x => exact ⟨d0, false, as52_text _, fun _ _ => d0_in, rfl, fun _ => rfl⟩
theorem build0 (w : World) : (Instr.build 82 #[]).run Tryd.prog w = .ok d0.v w := by kernel_rfl
end Go.Proofs.YtgjkkbgdkdipgaaDoor
/- What held and Load come to. Conditions: at most 900000 asks. -/
namespace Go.Proofs.YtgjkkbgdkdipgaaDoor
open Go.RowKit Go.Op
set_option maxRecDepth 100000

theorem results_cell1 {fn : Func} {ts : Array Value} {w : World} {a : Tmp} {t : TypeId} {p : Addr} {v : Value} (h : fn.results = #[.cell a t]) (ha : ts.getD a undef = .pointer (some p)) (hl : (loadVar t p).run Tryd.prog w = .ok v w) : (results fn ts).run Tryd.prog w = .ok v w := by
  unfold results
  rw [h]
  simp [asAddr, ha, hl, -Array.getD_eq_getD_getElem?]
theorem results_cell2 {fn : Func} {ts : Array Value} {w : World} {a b : Tmp} {t : TypeId} {p : Addr} {v : Value} (x : Value) (h : fn.results = #[.cell a t, .tmp b]) (ha : ts.getD a undef = .pointer (some p)) (hb : ts.getD b undef = x) (hl : (loadVar t p).run Tryd.prog w = .ok v w) : (results fn ts).run Tryd.prog w = .ok (.tuple #[v, x]) w := by
  unfold results
  rw [h]
  simp [asAddr, ha, hb, hl, -Array.getD_eq_getD_getElem?]
theorem results_mid3 {fn : Func} {ts : Array Value} {w : World} {a b c : Tmp} {t : TypeId} {p : Addr} {v : Value} (x y : Value) (h : fn.results = #[.tmp a, .cell b t, .tmp c]) (ha : ts.getD a undef = x) (hb : ts.getD b undef = .pointer (some p)) (hc : ts.getD c undef = y) (hl : (loadVar t p).run Tryd.prog w = .ok v w) : (results fn ts).run Tryd.prog w = .ok (.tuple #[x, v, y]) w := by
  unfold results
  rw [h]
  simp [asAddr, ha, hb, hc, hl, -Array.getD_eq_getD_getElem?]
theorem results_mid4 {fn : Func} {ts : Array Value} {w : World} {a b c d : Tmp} {t : TypeId} {p : Addr} {v : Value} (x y z : Value) (h : fn.results = #[.tmp a, .cell b t, .tmp c, .tmp d]) (ha : ts.getD a undef = x) (hb : ts.getD b undef = .pointer (some p)) (hc : ts.getD c undef = y) (hd : ts.getD d undef = z) (hl : (loadVar t p).run Tryd.prog w = .ok v w) : (results fn ts).run Tryd.prog w = .ok (.tuple #[x, v, y, z]) w := by
  unfold results
  rw [h]
  simp [asAddr, ha, hb, hc, hd, hl, -Array.getD_eq_getD_getElem?]
section
variable {w0 : World} {b c r pb po : Nat} {t : Value} {G : List (Nat × List Sw)} {w : World} {m : M} {s : Pt}
theorem held_E (h : SysE w0 b c r pb po t G w m s) (hc : m.count ≤ 900000) (k : Int) :
    Calls Tryd.prog 81 #[.pointer (some ⟨pb, po, none⟩), .int .i64 k] w fun e w' => Ev w0 b c r pb po t G w RHeld ((heldP k).run s m) e w' := by
  have hb0 := (Below.refl w.heap.size w).alloc (Nat.le_refl _) dobj
  have hl := eload (h.later hb0) hc k
  have HL := Lib.hid (h.fresh dobj)
  have HV := Lib.hid (dnew w)
  have HB := Lib.hid hb0
  clear h hb0
  unfold dobj at hl
  go_enter Tryd.func81, Tryd.ntmps81
  go_wp2_with fail
  refine hl.mono ?_
  rintro e w1 hE
  rcases hE.cases with ⟨t1, G1, s1, m1, ho, rfl, ha⟩ | ⟨t1, G1, s1, m1, a, v, ho, rfl, ⟨x, hx, hi, rfl⟩, ha⟩
  · have HE : Hid (Ev w0 b c r pb po t G w RHeld ((heldP k).run s m) (Halt pb po) w1) := Ev.die (by rw [heldP, Pr.run_ask, ho]) (ha.back HB.out)
    clear hl hE ho ha
    unfold Halt
    go_wp2
    exact ⟨rfl, HE.out⟩
  · obtain ⟨v1, l1⟩ := ha.cells HL.out HV.out
    have hrun : (heldP k).run s m = (some (heldR a), s1, m1) := by rw [heldP, Pr.run_ask, ho]; simp only [Pr.run]
    have ha1 := ha.back HB.out
    have hz := v1.lt
    have fz := v1.fz
    obtain ⟨c0, c1, c2, c3⟩ := v1.cells
    by_cases herr : a.err = 0
    · obtain ⟨d, ok, has, hdi, hval, hno⟩ := as52_any x
      have hR : heldR a = heldR ⟨x.e, 0, false, 0⟩ := by unfold heldR; rw [herr, hx]
      have hf : ∀ d' : Ds, d'.e = (heldR a).1 → d'.In G1 → Hid (∀ o : Obj, Ev w0 b c r pb po t G w RHeld ((heldP k).run s m) (.returned (.tuple #[d'.v, .int .i64 (heldR a).2])) ((dput w1 w.heap.size d').alloc o) ∧ (loadVar 82 ⟨w.heap.size, 0, none⟩).run Tryd.prog ((dput w1 w.heap.size d').alloc o) = .ok d'.v ((dput w1 w.heap.size d').alloc o)) := fun d' e1 e2 o =>
        have hb := (Below.refl (dput w1 w.heap.size d').heap.size (dput w1 w.heap.size d')).alloc (Nat.le_refl _) o
        ⟨Ev.ret hrun ⟨d', e1, e2, rfl⟩ ((ha1.aside (dput_but _ _ _) l1 (Nat.le_refl _)).later hb), ((v1.put d').later hb).loadVar⟩
      rw [herr]
      cases ok with
      | true =>
        have HF := hf d (by rw [hR, ← hval]; rfl) (hdi _ hi)
        rw [show (heldR a).2 = 0 by rw [hR, ← hval]; rfl] at HF
        unfold Ds.v at has
        clear hl hE ho ha v1 l1 hrun ha1 herr hdi hval hno hf hR hi hx
        go_wp2
        exact bodyPost_ret (results_cell2 (.int .i64 0) Tryd.results81 rfl rfl (HF.out _).2) rfl (HF.out _).1
      | false =>
        have hd0 := hno rfl
        subst hd0
        have HF := hf d0 (by rw [hR, ← hval]; rfl) d0_in
        rw [show (heldR a).2 = 6 by rw [hR, ← hval]; rfl] at HF
        unfold Ds.v at has
        simp only [d0] at has
        clear hl hE ho ha v1 l1 hrun ha1 herr hdi hval hno hf hR hi hx
        go_wp2
        exact bodyPost_ret (results_cell2 (.int .i64 6) Tryd.results81 rfl rfl (HF.out _).2) rfl (HF.out _).1
    · have hR : heldR a = (d0, a.err) := by unfold heldR; rw [if_neg herr]
      have HF : Hid (Ev w0 b c r pb po t G w RHeld ((heldP k).run s m) (.returned (.tuple #[d0.v, .int .i64 a.err])) (dput w1 w.heap.size d0) ∧ (loadVar 82 ⟨w.heap.size, 0, none⟩).run Tryd.prog (dput w1 w.heap.size d0) = .ok d0.v (dput w1 w.heap.size d0)) :=
        ⟨Ev.ret hrun ⟨d0, by rw [hR]; rfl, d0_in, by rw [hR]⟩ (ha1.aside (dput_but _ _ _) l1 (Nat.le_refl _)), (v1.put d0).loadVar⟩
      clear hl hE ho ha v1 l1 hrun ha1 hR hi hx
      go_wp2
      exact bodyPost_ret (results_cell2 (.int .i64 a.err) Tryd.results81 rfl rfl HF.out.2) rfl HF.out.1
end
end Go.Proofs.YtgjkkbgdkdipgaaDoor
/- What slices.Clone of a descriptor's swaps, and Load, come to. Conditions: at most 900000 asks. -/
namespace Go.Proofs.YtgjkkbgdkdipgaaDoor
open Go.RowKit Go.Op
set_option maxRecDepth 100000

section
variable {w0 : World} {b c r pb po : Nat} {t t1 : Value} {G G1 : List (Nat × List Sw)} {w w1 w2 : World} {m m1 : M} {s s1 : Pt}
theorem SysE.grow (h : SysE w0 b c r pb po t G w m s) (hb : Below w.heap.size w w1) {g : Nat} {l : List Sw} (hg : w.heap.size ≤ g) (hr : Rw w1 g l) : SysE w0 b c r pb po t ((g, l) :: G) w1 m s := by
  obtain ⟨m0, s0, h1, h2, h3, h4⟩ := h
  have h5 := h1.later hb
  have o := h1.has.at_.own
  have q1 := o.lb
  have q2 := o.lc
  have q3 := o.lr
  have q4 := h1.pt.lt
  have q5 := h1.has.below.size
  have hs : ∀ x, x ∈ G → x ∈ (g, l) :: G := fun x hx => List.mem_cons_of_mem _ hx
  refine ⟨m0, s0, ⟨h5.has, h5.pt, h5.nb, h5.tb, h5.hp, fun g' l' hx => ?_⟩, h2.more hs, h3.more hs, h4⟩
  rcases List.mem_cons.1 hx with e | e
  · cases e
    exact ⟨hr, by omega, by omega, by omega, by omega, by omega, fun e => by
      have := (World.ownsRow.lt h1.pt.own _ e).2
      omega⟩
  · exact h5.rows g' l' e
theorem Aft.grow (h : Aft w0 b c r pb po t G w t1 G1 w1 m1 s1) (hb : Below w1.heap.size w1 w2) {g : Nat} {l : List Sw} (hg : w1.heap.size ≤ g) (hr : Rw w2 g l) : Aft w0 b c r pb po t G w t1 ((g, l) :: G1) w2 m1 s1 := by
  have h1 := h.later hb
  refine ⟨h.sys.grow hb hg hr, h1.but, h1.row, ⟨fun x hx => List.mem_cons_of_mem _ (h.gro.1 x hx), fun x hx => ?_⟩⟩
  rcases List.mem_cons.1 hx with e | e
  · cases e
    exact .inr (Nat.le_trans h.but.size hg)
  · exact h.gro.2 x e
/-- Behind Clone. -/
def Cloned (w0 : World) (b c r pb po : Nat) (t : Value) (G : List (Nat × List Sw)) (w : World) (t1 : Value) (G1 : List (Nat × List Sw)) (w1 : World) (m1 : M) (s1 : Pt) (d : Ds) (e : Ending) (w' : World) : Prop :=
  ∃ ad cap G2, e = .returned (.slice ad d.n cap) ∧ (Ds.mk d.ver d.bf d.st d.sw ad d.n cap).In G2 ∧ Aft w0 b c r pb po t G w t1 G2 w' m1 s1 ∧ Grow w1 G1 G2
theorem eclone (h : Aft w0 b c r pb po t G w t1 G1 w1 m1 s1) (d : Ds) (hd : d.In G1) :
    Calls Tryd.prog 80 #[.slice d.ad d.n d.cap] w1 fun e w' => Cloned w0 b c r pb po t G w t1 G1 w1 m1 s1 d e w' ∧ Below w1.heap.size w1 w' := by
  obtain ⟨m0, s0, h1, -⟩ := id h.sys
  have hsl : SlAt w1 d.ad d.sw := hd.row.imp id fun ⟨g, e, hm⟩ => ⟨g, e, (h1.rows g _ hm).1⟩
  have hcap := hd.cap
  rw [hd.n] at hcap
  rw [hd.n]
  refine (clone_any w1 d.ad d.cap d.sw hd.few hcap hsl).mono ?_
  rintro e w2 ⟨⟨ad, cap, rfl, h2, h3⟩, hb⟩
  refine ⟨?_, hb⟩
  rcases h3 with h3 | ⟨g, rfl, hg, hr⟩
  · exact ⟨ad, cap, G1, by rw [hd.n], ⟨hd.n, by rw [hd.n]; exact h2, hd.few, .inl h3⟩, h.later hb, Grow.refl _ _⟩
  · exact ⟨_, cap, (g, d.sw) :: G1, by rw [hd.n], ⟨hd.n, by rw [hd.n]; exact h2, hd.few, .inr ⟨g, rfl, List.mem_cons_self ..⟩⟩, h.grow hb hg hr, ⟨fun x hx => List.mem_cons_of_mem _ hx, fun x hx => (List.mem_cons.1 hx).elim (fun e => by cases e; exact .inr hg) .inl⟩⟩
theorem Loc.grow {z : Nat} (h : Loc w0 b c r pb t G w z) (hs : w.heap.size ≤ w1.heap.size) (hg : Grow w G G1) : Loc w0 b c r pb t G1 w1 z :=
  ⟨Nat.lt_of_lt_of_le h.lt hs, h.ge, h.ne, h.nt, fun x hx e => (hg.2 x hx).elim (fun e2 => h.ng x e2 e) fun e2 => by have := h.lt; omega⟩
theorem load_E (h : SysE w0 b c r pb po t G w m s) (hc : m.count ≤ 900000) (k : Int) :
    Calls Tryd.prog 47 #[.pointer (some ⟨pb, po, none⟩), .int .i64 k] w fun e w' => Ev w0 b c r pb po t G w RHeld ((heldP k).run s m) e w' := by
  have hb0 := (Below.refl w.heap.size w).alloc (Nat.le_refl _) dobj
  have hl := held_E (h.later hb0) hc k
  have HL := Lib.hid (h.fresh dobj)
  have HV := Lib.hid (dnew w)
  have HB := Lib.hid hb0
  clear h hb0
  unfold dobj at hl
  go_enter Tryd.func47, Tryd.ntmps47
  go_wp2_with fail
  refine hl.mono ?_
  rintro e w1 hE
  rcases hE.cases with ⟨t1, G1, s1, m1, ho, rfl, ha⟩ | ⟨t1, G1, s1, m1, a, v, ho, rfl, ⟨d, hd, hi, rfl⟩, ha⟩
  · have HE : Hid (Ev w0 b c r pb po t G w RHeld ((heldP k).run s m) (Halt pb po) w1) := Ev.die ho (ha.back HB.out)
    clear hl hE ho ha
    unfold Halt
    go_wp2
    exact ⟨rfl, HE.out⟩
  · obtain ⟨v1, l1⟩ := ha.cells HL.out HV.out
    have ha1 := ha.back HB.out
    have hz := v1.lt
    have hcl := eclone (ha1.later ((Below.refl w1.heap.size w1).alloc (Nat.le_refl _) d.obj)) d hi
    have HN := Lib.hid (dnewd w1 d)
    have HL1 := Lib.hid (l1.same (((Below.refl w1.heap.size w1).alloc (Nat.le_refl _) d.obj)).size)
    have HV1 := Lib.hid (v1.later ((Below.refl w1.heap.size w1).alloc (Nat.le_refl _) d.obj))
    have HF := Lib.hid (ha1.sys.fresh d.obj)
    have HA := Lib.hid ha1
    have HO := Lib.hid ho
    have HD := Lib.hid hd
    unfold Ds.v
    unfold Ds.obj at hcl
    clear hl hE ho ha v1 l1 ha1 hi hd
    go_wp2_with fail
    refine hcl.mono ?_
    rintro e w2 ⟨⟨ad, cap, G2, rfl, hi2, ha2, hs2⟩, hb2⟩
    have n2 := HN.out.later hb2
    have v2 := HV1.out.later hb2
    obtain ⟨c0, c1, c2, c3⟩ := v2.cells
    obtain ⟨e0, e1, e2, e3⟩ := n2.cells
    have fz := v2.fz
    have fn := n2.fz
    have l2 := HF.out.grow hb2.size hs2
    have l3 := HL1.out.grow hb2.size hs2
    have b3 : But w1.heap.size w2 (w2.setCell ⟨w1.heap.size, 3, none⟩ (.slice ad d.n cap)) := (But.refl _ _).set _ _
    have v3 := v2.same b3.size (b3.block _ v2.lt (by omega))
    have HE : Hid (Ev w0 b c r pb po t G w RHeld ((heldP k).run s m) (.returned (.tuple #[(Ds.mk d.ver d.bf d.st d.sw ad d.n cap).v, .int .i64 a.2])) (dput (w2.setCell ⟨w1.heap.size, 3, none⟩ (.slice ad d.n cap)) w.heap.size (Ds.mk d.ver d.bf d.st d.sw ad d.n cap))) :=
      Ev.ret HO.out ⟨Ds.mk d.ver d.bf d.st d.sw ad d.n cap, HD.out, hi2, rfl⟩ ((ha2.aside b3 l2 HA.out.but.size).aside (dput_but _ _ _) (l3.same b3.size) (Nat.le_refl _))
    have HG := Lib.hid (v3.put (Ds.mk d.ver d.bf d.st d.sw ad d.n cap)).loadVar
    clear hcl v2 n2 ha2 l2 l3 b3 v3 hs2 hi2 hb2
    go_wp2
    exact bodyPost_ret (results_cell2 (.int .i64 a.2) Tryd.results47 rfl rfl HG.out) rfl HE.out
end
end Go.Proofs.YtgjkkbgdkdipgaaDoor
