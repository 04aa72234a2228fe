/- Programs that ask memory, as mathematics; what memory and ports are, their rows' places set aside; what a call by a port comes to. No condition. -/
import Derived.Test.YtibimnibmengpaaDoorStG
import Derived.Deep.Upon
import Derived.Deep.MidRow
namespace Go.Proofs.YtibimnibmengpaaDoor
open Go.RowKit Go.Op
set_option maxRecDepth 100000

/-- A program that asks memory. -/
inductive Pr (α : Type) where
  | ret (a : α)
  | ask (q : Qn) (k : An → Pr α)
def Pr.bind {α β : Type} : Pr α → (α → Pr β) → Pr β
  | .ret a, f => f a
  | .ask q k, f => .ask q fun a => (k a).bind f
def Pr.run {α : Type} : Pr α → Pt → M → Option α × Pt × M
  | .ret a, s, m => (some a, s, m)
  | .ask q k, s, m => match s.ask q m with
    | (some a, s', m') => (k a).run s' m'
    | (none, s', m') => (none, s', m')
def Pr.one (q : Qn) : Pr An := .ask q .ret
theorem Pr.run_ask {α : Type} (q : Qn) (k : An → Pr α) (s : Pt) (m : M) : (Pr.ask q k).run s m = match s.ask q m with
    | (some a, s', m') => (k a).run s' m'
    | (none, s', m') => (none, s', m') := by simp only [Pr.run]
theorem Pr.one_run (q : Qn) (s : Pt) (m : M) : (Pr.one q).run s m = s.ask q m := by
  unfold Pr.one
  rw [Pr.run_ask]
  rcases s.ask q m with ⟨_ | a, s', m'⟩
  · rfl
  · simp only [Pr.run]
theorem Pr.run_bind {α β : Type} : ∀ (p : Pr α) (f : α → Pr β) (s : Pt) (m : M), (p.bind f).run s m = match p.run s m with
    | (some a, s', m') => (f a).run s' m'
    | (none, s', m') => (none, s', m')
  | .ret a, f, s, m => by simp only [Pr.bind, Pr.run]
  | .ask q k, f, s, m => by
    simp only [Pr.bind]
    rw [Pr.run_ask, Pr.run_ask]
    rcases s.ask q m with ⟨_ | a, s', m'⟩
    · rfl
    · exact Pr.run_bind (k a) f s' m'
theorem Pr.bind_some {α β : Type} {p : Pr α} {f : α → Pr β} {s s' : Pt} {m m' : M} {a : α} (h : p.run s m = (some a, s', m')) : (p.bind f).run s m = (f a).run s' m' := by
  rw [Pr.run_bind, h]
theorem Pr.bind_none {α β : Type} {p : Pr α} {f : α → Pr β} {s s' : Pt} {m m' : M} (h : p.run s m = (none, s', m')) : (p.bind f).run s m = (none, s', m') := by
  rw [Pr.run_bind, h]

/-- Rows' places, set aside. -/
def Held.e : Held → Held
  | .blk d _ => .blk d .nil
  | x => x
def Cl.e (x : Cl) : Cl := { x with held := x.held.e }
def M.e (m : M) : M := { m with cells := m.cells.map Cl.e }
def An.e (a : An) : An := { a with held := a.held.e }
def Pt.e (s : Pt) : Pt := { s with told := s.told.map An.e }
def Qn.e : Qn → Qn
  | .alloc x => .alloc x.e
  | q => q
theorem Held.e_busy (x : Held) : x.e.busy = x.busy := by cases x <;> rfl
theorem Cl.e_can (x : Cl) : x.e.can = x.can := by
  unfold Cl.can Cl.e
  simp only [Held.e_busy]
theorem M.e_least (m : M) : m.e.least = m.least := by
  unfold M.least M.flags M.e
  simp only [List.map_map]
  have : (Cl.can ∘ Cl.e) = Cl.can := funext Cl.e_can
  rw [this]
theorem M.e_cells (m : M) (i : Nat) : m.e.cells[i]? = (m.cells[i]?).map Cl.e := List.getElem?_map
theorem M.e_seek (m : M) (h : Int) : m.e.seek h = m.seek h := by
  unfold M.seek
  rw [M.e_cells]
  cases m.cells[(h % 65536 - 1).toNat]? with
  | none => rfl
  | some x =>
    show (if _ then (if x.e.held.busy = true ∧ _ then _ else _) else _) = _
    rw [show x.e.held.busy = x.held.busy from Held.e_busy _]
    rfl
theorem M.e_at (m : M) (h : Int) : m.e.at h = (m.at h).map fun px => (px.1, px.2.e) := by
  unfold M.at
  rw [M.e_seek]
  cases m.seek h with
  | none => rfl
  | some p =>
    simp only [Option.bind_some]
    rw [M.e_cells]
    cases m.cells[p]? <;> rfl
theorem M.e_set (l : List Cl) (i : Nat) (x : Cl) : (l.set i x).map Cl.e = (l.map Cl.e).set i x.e := List.map_set
theorem M.e_ask (m : M) : m.ask.e = m.e.ask := rfl
theorem M.e_miss (m : M) : m.miss.e = m.e.miss := rfl
theorem M.e_put (m : M) (p : Nat) (x : Cl) : (m.put p x).e = m.e.put p x.e := by
  unfold M.put M.e
  simp only [M.e_set]
theorem M.e_drop (m : M) (p : Nat) (x : Cl) : (m.drop p x).e = m.e.drop p x.e := by
  unfold M.drop M.e
  simp only [M.e_set]
  rfl
theorem M.e_alloc (m : M) (x : Held) : m.e.alloc x.e = ((m.alloc x).1.e, (m.alloc x).2) := by
  unfold M.alloc M.take
  rw [← M.e_ask, M.e_least, M.e_cells]
  cases m.ask.cells[m.ask.least]? with
  | none => rfl
  | some y =>
    simp only [Option.map_some]
    simp only [M.e, M.ask, M.e_set, Cl.e]
theorem M.e_load (m : M) (h : Int) : m.e.load h = ((m.load h).1.e, (m.load h).2.1.e, (m.load h).2.2) := by
  unfold M.load
  rw [M.e_at]
  cases m.at h with
  | none => rfl
  | some px =>
    obtain ⟨p, x⟩ := px
    obtain ⟨hd, g, r, st⟩ := x
    cases hd <;> rfl
theorem M.e_word (m : M) (h : Int) : m.e.word h = ((m.word h).1.e, (m.word h).2) := by
  unfold M.word
  rw [M.e_at]
  cases m.at h with
  | none => rfl
  | some px =>
    obtain ⟨p, x⟩ := px
    obtain ⟨hd, g, r, st⟩ := x
    cases hd <;> rfl
theorem M.e_store (m : M) (h n : Int) : m.e.store h n = ((m.store h n).1.e, (m.store h n).2) := by
  unfold M.store
  rw [M.e_at]
  cases m.at h with
  | none => rfl
  | some px =>
    obtain ⟨p, x⟩ := px
    obtain ⟨hd, g, r, st⟩ := x
    cases hd with
    | word k =>
      simp only [Option.map_some, Cl.e, Held.e]
      rw [M.e_put]; rfl
    | _ => rfl
theorem M.e_swap (m : M) (h o n : Int) : m.e.swap h o n = ((m.swap h o n).1.e, (m.swap h o n).2) := by
  unfold M.swap
  rw [M.e_at]
  cases m.at h with
  | none => rfl
  | some px =>
    obtain ⟨p, x⟩ := px
    obtain ⟨hd, g, r, st⟩ := x
    cases hd with
    | word k =>
      simp only [Option.map_some, Cl.e, Held.e]
      split
      · rw [M.e_put]; rfl
      · rfl
    | _ => rfl
theorem M.e_free (m : M) (h : Int) : m.e.free h = ((m.free h).1.e, (m.free h).2) := by
  unfold M.free
  rw [M.e_at]
  cases m.at h with
  | none => rfl
  | some px =>
    simp only [Option.map_some]
    rw [M.e_drop]; rfl
theorem M.e_retire (m : M) (h s : Int) : m.e.retire h s = ((m.retire h s).1.e, (m.retire h s).2) := by
  unfold M.retire
  rw [M.e_at]
  cases m.at h with
  | none => rfl
  | some px =>
    simp only [Option.map_some]
    rw [M.e_put]; rfl
theorem M.e_reap (m : M) (p s : Int) : m.e.reap p s = ((m.reap p s).1.e, (m.reap p s).2) := by
  unfold M.reap
  rw [show m.e.cells.length = m.cells.length from List.length_map ..]
  split
  · rfl
  · rw [M.e_cells]
    cases m.cells[p.toNat]? with
    | none => rfl
    | some x =>
      simp only [Option.map_some]
      rw [show x.e.ret = x.ret from rfl, show x.e.stamp = x.stamp from rfl]
      split
      · rw [M.e_drop]; rfl
      · rfl
theorem Qn.e_on (q : Qn) (m : M) : q.e.on m.e = ((q.on m).1.e, (q.on m).2.e) := by
  cases q with
  | alloc x => show (((m.e.alloc x.e).1, (⟨_, (m.e.alloc x.e).2.1, _, (m.e.alloc x.e).2.2⟩ : An)) : M × An) = _; rw [M.e_alloc]; rfl
  | load h => show (((m.e.load h).1, (⟨(m.e.load h).2.1, _, _, (m.e.load h).2.2⟩ : An)) : M × An) = _; rw [M.e_load]; rfl
  | word h => show (((m.e.word h).1, (⟨_, (m.e.word h).2.1, _, (m.e.word h).2.2⟩ : An)) : M × An) = _; rw [M.e_word]; rfl
  | store h n => show (((m.e.store h n).1, (⟨_, _, _, (m.e.store h n).2⟩ : An)) : M × An) = _; rw [M.e_store]; rfl
  | swap h o n => show (((m.e.swap h o n).1, (⟨_, _, (m.e.swap h o n).2.1, (m.e.swap h o n).2.2⟩ : An)) : M × An) = _; rw [M.e_swap]; rfl
  | free h => show (((m.e.free h).1, (⟨_, _, _, (m.e.free h).2⟩ : An)) : M × An) = _; rw [M.e_free]; rfl
  | retire h s => show (((m.e.retire h s).1, (⟨_, _, _, (m.e.retire h s).2⟩ : An)) : M × An) = _; rw [M.e_retire]; rfl
  | reap p s => show (((m.e.reap p s).1, (⟨_, _, (m.e.reap p s).2.1, (m.e.reap p s).2.2⟩ : An)) : M × An) = _; rw [M.e_reap]; rfl
theorem Pt.e_ask (s : Pt) (q : Qn) (m : M) : s.e.ask q.e m.e = ((s.ask q m).1.map An.e, (s.ask q m).2.1.e, (s.ask q m).2.2.e) := by
  have hn : s.e.told[s.e.place]? = (s.told[s.place]?).map An.e := List.getElem?_map
  cases hx : s.told[s.place]? with
  | some a =>
    rw [hx] at hn
    rw [Pt.ask_told hx, Pt.ask_told hn]
    rfl
  | none =>
    rw [hx] at hn
    cases hs : s.spent with
    | true => rw [Pt.ask_halt hx hs, Pt.ask_halt hn hs]; rfl
    | false =>
      cases hk : s.keeps with
      | true =>
        rw [Pt.ask_keep hx hs hk, Pt.ask_keep hn hs hk, Qn.e_on]
        simp only [Pt.e, List.map_append, List.map_cons, List.map_nil, Option.map_some]
      | false => rw [Pt.ask_do hx hs hk, Pt.ask_do hn hs hk, Qn.e_on]; rfl

/-- A slice whose row stands among rows that nobody changes. -/
structure Sl.In (G : List (Nat × List Value)) (s : Sl) (l : List Value) : Prop where
  n : s.n = l.length
  cap : s.n ≤ s.cap
  few : l.length ≤ 1000000
  row : l = [] ∨ ∃ g o r, s.a = some ⟨g, o, none⟩ ∧ (g, r) ∈ G ∧ ∀ i x, l[i]? = some x → r[o + i]? = some x
theorem Sl.In.more {G G' : List (Nat × List Value)} {s : Sl} {l : List Value} (h : s.In G l) (hg : ∀ x, x ∈ G → x ∈ G') : s.In G' l :=
  ⟨h.n, h.cap, h.few, h.row.imp id fun ⟨g, o, r, e, hm, hr⟩ => ⟨g, o, r, e, hg _ hm, hr⟩⟩
theorem Sl.In.nil {G : List (Nat × List Value)} : Sl.nil.In G [] := ⟨rfl, Nat.le_refl _, by decide, .inl rfl⟩
def ints (l : List Int) : List Value := l.map (.int .i64)
/-- A block whose rows stand among rows that nobody changes. -/
def Rv.In (G : List (Nat × List Value)) (r : Rv) (p : Pl) : Prop := p.s0.In G (r.keys.map .string) ∧ p.s1.In G (r.vals.map .string) ∧ p.s2.In G (r.gone.map .bool) ∧ p.s3.In G (ints r.tab)
def Dat.In (G : List (Nat × List Value)) : Dat → Pl → Prop
  | .age r _, p => r.In G p
  | .node _ _ nx, p => p.s0.In G (ints nx)
theorem Dat.In.more {G G' : List (Nat × List Value)} {d : Dat} {p : Pl} (h : d.In G p) (hg : ∀ x, x ∈ G → x ∈ G') : d.In G' p := by
  cases d with
  | age r pv => exact ⟨Sl.In.more h.1 hg, Sl.In.more h.2.1 hg, Sl.In.more h.2.2.1 hg, Sl.In.more h.2.2.2 hg⟩
  | node low head nx => exact Sl.In.more h hg
def Held.In (G : List (Nat × List Value)) (x : Held) : Prop := ∀ d p, x = .blk d p → d.In G p
theorem Held.In.more {G G' : List (Nat × List Value)} {x : Held} (h : x.In G) (hg : ∀ x, x ∈ G → x ∈ G') : x.In G' := fun d p e => (h d p e).more hg
def M.In (G : List (Nat × List Value)) (m : M) : Prop := ∀ (i : Nat) (x : Cl), m.cells[i]? = some x → x.held.In G
theorem M.In.more {G G' : List (Nat × List Value)} {m : M} (h : m.In G) (hg : ∀ x, x ∈ G → x ∈ G') : m.In G' := fun i x hx => (h i x hx).more hg
def Pt.In (G : List (Nat × List Value)) (s : Pt) : Prop := ∀ (i : Nat) (a : An), s.told[i]? = some a → a.held.In G
theorem Pt.In.more {G G' : List (Nat × List Value)} {s : Pt} (h : s.In G) (hg : ∀ x, x ∈ G → x ∈ G') : s.In G' := fun i x hx => (h i x hx).more hg
def Qn.In (G : List (Nat × List Value)) : Qn → Prop
  | .alloc x => x.In G
  | _ => True
theorem no_in {G : List (Nat × List Value)} : Held.no.In G := fun _ _ e => (by cases e)
theorem word_in {G : List (Nat × List Value)} {n : Int} : (Held.word n).In G := fun _ _ e => (by cases e)
section
variable {G : List (Nat × List Value)} {m : M}
theorem in_set {l : List Cl} {p : Nat} {y : Cl} (hl : ∀ (i : Nat) (x : Cl), l[i]? = some x → x.held.In G) (hy : y.held.In G) : ∀ (i : Nat) (x : Cl), (l.set p y)[i]? = some x → x.held.In G := by
  intro i x hx
  rw [List.getElem?_set] at hx
  split at hx
  · split at hx
    · cases hx; exact hy
    · cases hx
  · exact hl i x hx
theorem M.In.at (h : m.In G) {a : Int} {p : Nat} {x : Cl} (ha : m.at a = some (p, x)) : x.held.In G := h p x (at_is ha).2.1
theorem M.In.on (h : m.In G) {q : Qn} (hq : q.In G) : (q.on m).1.In G ∧ (q.on m).2.held.In G := by
  cases q with
  | alloc x =>
    refine ⟨?_, no_in⟩
    show ((m.alloc x).1).In G
    unfold M.alloc M.take
    split
    · exact in_set (l := m.ask.cells) h hq
    · exact h
  | load a =>
    show ((m.load a).1).In G ∧ ((m.load a).2.1).In G
    unfold M.load
    split
    · exact ⟨h, no_in⟩
    · rename_i p x ha
      have := h.at ha
      split
      · rename_i d pl hd; rw [hd] at this; exact ⟨h, this⟩
      · exact ⟨h, no_in⟩
  | word a =>
    refine ⟨?_, no_in⟩
    show ((m.word a).1).In G
    unfold M.word
    split
    · exact h
    · split
      all_goals exact h
  | store a n =>
    refine ⟨?_, no_in⟩
    show ((m.store a n).1).In G
    unfold M.store
    split
    · exact h
    · split
      · exact in_set (l := m.ask.cells) h word_in
      · exact h
  | swap a o n =>
    refine ⟨?_, no_in⟩
    show ((m.swap a o n).1).In G
    unfold M.swap
    split
    · exact h
    · split
      · split
        · exact in_set (l := m.ask.cells) h word_in
        · exact h
      · exact h
  | free a =>
    refine ⟨?_, no_in⟩
    show ((m.free a).1).In G
    unfold M.free
    split
    · exact h
    · exact in_set (l := m.ask.cells) h no_in
  | retire a s =>
    refine ⟨?_, no_in⟩
    show ((m.retire a s).1).In G
    unfold M.retire
    split
    · exact h
    · rename_i p x ha
      exact in_set (l := m.ask.cells) h (show x.held.In G from h.at ha)
  | reap p s =>
    refine ⟨?_, no_in⟩
    show ((m.reap p s).1).In G
    unfold M.reap
    split
    · exact h
    · split
      · split
        · exact in_set (l := m.ask.cells) h no_in
        · exact h
      · exact h
theorem Pt.In.ask {s : Pt} (h : s.In G) (hm : m.In G) {q : Qn} (hq : q.In G) : (∀ a, (s.ask q m).1 = some a → a.held.In G) ∧ (s.ask q m).2.1.In G ∧ (s.ask q m).2.2.In G := by
  cases hx : s.told[s.place]? with
  | some a => rw [Pt.ask_told hx]; exact ⟨fun b e => by cases e; exact h _ _ hx, h, hm⟩
  | none =>
    cases hs : s.spent with
    | true => rw [Pt.ask_halt hx hs]; exact ⟨fun b e => (by cases e), h, hm⟩
    | false =>
      obtain ⟨h1, h2⟩ := hm.on hq
      cases hk : s.keeps with
      | true =>
        rw [Pt.ask_keep hx hs hk]
        refine ⟨fun b e => by cases e; exact h2, fun i a ha => ?_, h1⟩
        simp only [List.getElem?_append] at ha
        split at ha
        · exact h i a ha
        · cases hj : i - s.told.length with
          | zero => rw [hj] at ha; simp at ha; subst ha; exact h2
          | succ n => rw [hj] at ha; simp at ha
      | false => rw [Pt.ask_do hx hs hk]; exact ⟨fun b e => by cases e; exact h2, h, h1⟩
end
theorem on_count (q : Qn) (m : M) : (q.on m).1.count = m.count + 1 := by
  cases q with
  | alloc x => show ((m.alloc x).1).count = _; unfold M.alloc M.take; split <;> rfl
  | load a =>
    show ((m.load a).1).count = _; unfold M.load
    split
    · rfl
    · split <;> rfl
  | word a =>
    show ((m.word a).1).count = _; unfold M.word
    split
    · rfl
    · split <;> rfl
  | store a n =>
    show ((m.store a n).1).count = _; unfold M.store
    split
    · rfl
    · split <;> rfl
  | swap a o n =>
    show ((m.swap a o n).1).count = _; unfold M.swap
    split
    · rfl
    · split
      · split <;> rfl
      · rfl
  | free a => show ((m.free a).1).count = _; unfold M.free; split <;> rfl
  | retire a s => show ((m.retire a s).1).count = _; unfold M.retire; split <;> rfl
  | reap p s =>
    show ((m.reap p s).1).count = _; unfold M.reap
    split
    · rfl
    · split
      · split <;> rfl
      · rfl
theorem on_ok {m : M} (h : m.Ok m.count) (q : Qn) : (q.on m).1.Ok (q.on m).1.count := by
  rw [on_count]
  cases q with
  | alloc x => exact h.alloc
  | load a => exact h.load a
  | word a => exact h.word a
  | store a n => exact h.store a n
  | swap a o n => exact h.swap a o n
  | free a => exact h.free a
  | retire a s => exact h.retire a s
  | reap p s => exact h.reap p s
/-- What an ask leaves of a port and of memory's count. -/
structure Fit (s : Pt) (m : M) : Prop where
  ok : m.Ok m.count
  le : s.place ≤ s.told.length
  len : (s.told.length : Int) ≤ m.count
theorem Fit.ask {s : Pt} {m : M} (h : Fit s m) (q : Qn) : Fit (s.ask q m).2.1 (s.ask q m).2.2 := by
  cases hx : s.told[s.place]? with
  | some a =>
    rw [Pt.ask_told hx]
    have := (List.getElem?_eq_some_iff.1 hx).1
    exact ⟨h.ok, by simp only; omega, h.len⟩
  | none =>
    cases hs : s.spent with
    | true => rw [Pt.ask_halt hx hs]; exact ⟨h.ok, h.le, h.len⟩
    | false =>
      have h1 := on_ok h.ok q
      have h2 := on_count q m
      have h3 := h.le
      have h4 := h.len
      cases hk : s.keeps with
      | true =>
        rw [Pt.ask_keep hx hs hk]
        exact ⟨h1, by simp; omega, by simp; omega⟩
      | false => rw [Pt.ask_do hx hs hk]; exact ⟨h1, h.le, by simp only; omega⟩
theorem ask_count (s : Pt) (q : Qn) (m : M) : m.count ≤ (s.ask q m).2.2.count ∧ (s.ask q m).2.2.count ≤ m.count + 1 ∧ (s.ask q m).2.1.ext = s.ext := by
  cases hx : s.told[s.place]? with
  | some a => rw [Pt.ask_told hx]; exact ⟨Int.le_refl _, by simp only; omega, rfl⟩
  | none =>
    cases hs : s.spent with
    | true => rw [Pt.ask_halt hx hs]; exact ⟨Int.le_refl _, by simp only; omega, rfl⟩
    | false =>
      have h2 := on_count q m
      cases hk : s.keeps with
      | true => rw [Pt.ask_keep hx hs hk]; exact ⟨by simp only; omega, by simp only; omega, rfl⟩
      | false => rw [Pt.ask_do hx hs hk]; exact ⟨by simp only; omega, by simp only; omega, rfl⟩

/-- A port and its memory, rows' places set aside. -/
def SysE (w0 : World) (b c r pb po : Nat) (t : Value) (G : List (Nat × List Value)) (w : World) (m : M) (s : Pt) : Prop :=
  ∃ m0 s0, Sys w0 b c r m0.count G pb po t w m0 s0 ∧ m0.In G ∧ s0.In G ∧ Fit s0 m0 ∧ m0.e = m ∧ s0.e = s
/-- What stands behind some asks. -/
structure Aft (w0 : World) (b c r pb po : Nat) (t : Value) (G : List (Nat × List Value)) (w : World) (t' : Value) (G' : List (Nat × List Value)) (w' : World) (m' : M) (s' : Pt) : Prop where
  sys : SysE w0 b c r pb po t' G' w' m' s'
  but : But5 b c r pb t w w'
  row : Row2 w t t'
  gro : Grow w G G'
/-- How a call by a port ends that does what a program says. -/
def Ev {α : Type} (w0 : World) (b c r pb po : Nat) (t : Value) (G : List (Nat × List Value)) (w : World) (R : List (Nat × List Value) → α → Value → Prop) (o : Option α × Pt × M) (e : Ending) (w' : World) : Prop :=
  ∃ t' G', (match o.1 with
    | some a => ∃ v, e = .returned v ∧ R G' a v
    | none => e = Halt pb po) ∧ Aft w0 b c r pb po t G w t' G' w' o.2.2 o.2.1
section
variable {w0 : World} {b c r pb po : Nat} {t t1 t2 : Value} {G G1 G2 : List (Nat × List Value)} {w w1 w2 : World} {m m1 m2 : M} {s s1 s2 : Pt}
theorem SysE.later (h : SysE w0 b c r pb po t G w m s) (hb : Below w.heap.size w w1) : SysE w0 b c r pb po t G w1 m s := by
  obtain ⟨m0, s0, h1, h2⟩ := h
  exact ⟨m0, s0, h1.later hb, h2⟩
theorem Aft.refl (h : SysE w0 b c r pb po t G w m s) : Aft w0 b c r pb po t G w t G w m s := ⟨h, But5.refl _ _ _ _ _ _, Row2.refl _ _, Grow.refl _ _⟩
theorem Aft.trans (h : Aft w0 b c r pb po t G w t1 G1 w1 m1 s1) (k : Aft w0 b c r pb po t1 G1 w1 t2 G2 w2 m2 s2) : Aft w0 b c r pb po t G w t2 G2 w2 m2 s2 :=
  ⟨k.sys, h.but.next h.row k.but, h.row.next h.but.size k.row, h.gro.trans h.but.size k.gro⟩
theorem Aft.later (h : Aft w0 b c r pb po t G w t1 G1 w1 m1 s1) (hb : Below w1.heap.size w1 w2) : Aft w0 b c r pb po t G w t1 G1 w2 m1 s1 :=
  ⟨h.sys.later hb, h.but.next h.row (But5.of hb), h.row, h.gro⟩
theorem Aft.back (h : Aft w0 b c r pb po t G w1 t1 G1 w2 m1 s1) (hb : Below w.heap.size w w1) : Aft w0 b c r pb po t G w t1 G1 w2 m1 s1 :=
  ⟨h.sys, (But5.of hb).trans h.but, h.row.from hb.size, h.gro.from hb.size⟩
theorem Ev.cases {α : Type} {R : List (Nat × List Value) → α → Value → Prop} {o : Option α × Pt × M} {e : Ending} (h : Ev w0 b c r pb po t G w R o e w1) :
    (∃ t' G' s' m', o = (none, s', m') ∧ e = Halt pb po ∧ Aft w0 b c r pb po t G w t' G' w1 m' s') ∨ (∃ t' G' s' m' a v, o = (some a, s', m') ∧ e = .returned v ∧ R G' a v ∧ Aft w0 b c r pb po t G w t' G' w1 m' s') := by
  obtain ⟨oa, s', m'⟩ := o
  obtain ⟨t', G', h1, h2⟩ := h
  cases oa with
  | none => exact .inl ⟨t', G', s', m', rfl, h1, h2⟩
  | some a =>
    obtain ⟨v, h3, h4⟩ := h1
    exact .inr ⟨t', G', s', m', a, v, rfl, h3, h4, h2⟩
theorem Ev.ret {α : Type} {R : List (Nat × List Value) → α → Value → Prop} {o : Option α × Pt × M} {a : α} {v : Value} (ho : o = (some a, s1, m1)) (hR : R G1 a v) (h : Aft w0 b c r pb po t G w t1 G1 w1 m1 s1) : Ev w0 b c r pb po t G w R o (.returned v) w1 := by
  subst ho; exact ⟨t1, G1, ⟨v, rfl, hR⟩, h⟩
theorem Ev.die {α : Type} {R : List (Nat × List Value) → α → Value → Prop} {o : Option α × Pt × M} (ho : o = (none, s1, m1)) (h : Aft w0 b c r pb po t G w t1 G1 w1 m1 s1) : Ev w0 b c r pb po t G w R o (Halt pb po) w1 := by
  subst ho; exact ⟨t1, G1, rfl, h⟩
/-- A block of the caller's own beside port, memory and rows. -/
structure Loc (w0 : World) (b c r pb : Nat) (t : Value) (G : List (Nat × List Value)) (w : World) (z : Nat) : Prop where
  lt : z < w.heap.size
  ge : w0.heap.size ≤ z
  ne : z ≠ b ∧ z ≠ c ∧ z ≠ r ∧ z ≠ pb
  nt : t.ownBlock ≠ some z
  ng : ∀ x, x ∈ G → x.1 ≠ z
theorem SysE.fresh (h : SysE w0 b c r pb po t G w m s) (o : Obj) : Loc w0 b c r pb t G (w.alloc o) w.heap.size := by
  obtain ⟨m0, s0, h1, -⟩ := h
  have o := h1.has.at_.own
  have h2 := h1.pt.lt
  have h3 := o.lb
  have h4 := o.lc
  have h5 := o.lr
  exact ⟨by simp, h1.has.below.size, ⟨by omega, by omega, by omega, by omega⟩, fun e => by
    have := (World.ownsRow.lt h1.pt.own _ e).2
    omega, fun x hx e => by
    have := (h1.rows x.1 x.2 hx).1.lt
    omega⟩
theorem Loc.same {z : Nat} (h : Loc w0 b c r pb t G w z) (hs : w.heap.size ≤ w1.heap.size) : Loc w0 b c r pb t G w1 z := ⟨Nat.lt_of_lt_of_le h.lt hs, h.ge, h.ne, h.nt, h.ng⟩
theorem Loc.aft {z : Nat} (h : Loc w0 b c r pb t G w z) (ha : Aft w0 b c r pb po t G w t1 G1 w1 m1 s1) : Loc w0 b c r pb t1 G1 w1 z ∧ w1.heap[z]? = w.heap[z]? := by
  refine ⟨⟨Nat.lt_of_lt_of_le h.lt ha.but.size, h.ge, h.ne, fun e => ?_, fun x hx e => ?_⟩, ha.but.block z h.lt h.ne.1 h.ne.2.1 h.ne.2.2.1 h.ne.2.2.2 (fun e => h.nt e.symm)⟩
  · rcases ha.row z e with e2 | e2
    · exact h.nt e2
    · have := h.lt; omega
  · rcases ha.gro.2 x hx with e2 | e2
    · exact h.ng x e2 e
    · have := h.lt; omega
/-- A change of such a block. -/
theorem SysE.aside {z : Nat} (h : SysE w0 b c r pb po t G w m s) (hk : But z w w1) (hz : Loc w0 b c r pb t G w z) : SysE w0 b c r pb po t G w1 m s := by
  obtain ⟨m0, s0, h1, h2⟩ := h
  have o := h1.has.at_.own
  refine ⟨m0, s0, ⟨h1.has.same hk.size (h1.has.below.trans ⟨hk.os, hk.tape, hk.output, hk.size, fun k hk2 => hk.block k (Nat.lt_of_lt_of_le hk2 h1.has.below.size) (by have := hz.ge; omega)⟩) (hk.block b o.lb hz.ne.1.symm) (hk.block c o.lc hz.ne.2.1.symm) (hk.block r o.lr hz.ne.2.2.1.symm), h1.pt.same (hk.block pb h1.pt.lt hz.ne.2.2.2.symm) (fun k e => hk.block k (World.ownsRow.lt h1.pt.own k e).2 (fun e2 => hz.nt (e2 ▸ e))), h1.nb, h1.tb, h1.hp, fun g l hg => ?_⟩, h2⟩
  obtain ⟨q1, q2⟩ := h1.rows g l hg
  exact ⟨q1.same hk.size (hk.block g q1.lt (hz.ng _ hg)), q2⟩
theorem Aft.aside {z : Nat} (h : Aft w0 b c r pb po t G w t1 G1 w1 m1 s1) (hk : But z w1 w2) (hz : Loc w0 b c r pb t1 G1 w1 z) (hw : w.heap.size ≤ z) : Aft w0 b c r pb po t G w t1 G1 w2 m1 s1 :=
  ⟨h.sys.aside hk hz, ⟨hk.os.trans h.but.os, hk.tape.trans h.but.tape, hk.output.trans h.but.output, Nat.le_trans h.but.size hk.size, fun k hk2 e1 e2 e3 e4 e5 => (hk.block k (Nat.lt_of_lt_of_le hk2 h.but.size) (by omega)).trans (h.but.block k hk2 e1 e2 e3 e4 e5)⟩, h.row, h.gro⟩
end
end Go.Proofs.YtibimnibmengpaaDoor
/- What a port's asks come to, rows' places set aside; slices.Clone of a row of swaps. Conditions: at most 900000 asks; at most 1000000 swaps. -/
namespace Go.Proofs.YtibimnibmengpaaDoor
open Go.RowKit Go.Op
set_option maxRecDepth 100000

theorem Ev.mono {α : Type} {w0 : World} {b c r pb po : Nat} {t : Value} {G : List (Nat × List Value)} {w w1 : World} {R R' : List (Nat × List Value) → α → Value → Prop} {o : Option α × Pt × M} {e : Ending} (h : Ev w0 b c r pb po t G w R o e w1) (hR : ∀ G' a v, R G' a v → R' G' a v) : Ev w0 b c r pb po t G w R' o e w1 := by
  obtain ⟨oa, s', m'⟩ := o
  obtain ⟨t', G', h1, h2⟩ := h
  refine ⟨t', G', ?_, h2⟩
  cases oa with
  | none => exact h1
  | some a =>
    obtain ⟨v, h3, h4⟩ := h1
    exact ⟨v, h3, hR _ _ _ h4⟩
section
variable {w0 : World} {b c r pb po : Nat} {t : Value} {G : List (Nat × List Value)} {w : World} {m : M} {s : Pt}
theorem ev_ask {m0 : M} {s0 : Pt} {q : Qn} {e : Ending} {w1 : World} (hm : m0.In G) (hs : s0.In G) (hf : Fit s0 m0) (hq : q.In G) (h : Asked w0 b c r m0.count G pb po t w m0 s0 q e w1) :
    Ev w0 b c r pb po t G w (fun G' a v => ∃ a0 : An, a0.e = a ∧ a0.held.In G' ∧ v = q.ret a0) (s0.e.ask q.e m0.e) e w1 := by
  obtain ⟨t', hE, hS, hB, hR⟩ := h
  rw [Pt.e_ask]
  obtain ⟨i1, i2, i3⟩ := hs.ask hm hq
  have hF := hf.ask q
  have hS' := hS.okof hF.ok
  refine ⟨t', G, ?_, ⟨⟨_, _, hS', i3, i2, hF, rfl, rfl⟩, hB, hR, Grow.refl _ _⟩⟩
  cases ho : (s0.ask q m0).1 with
  | none => rw [ho] at hE; exact hE
  | some a => rw [ho] at hE; exact ⟨_, hE, a, rfl, i1 a ho, rfl⟩
theorem Fit.pok {m0 : M} {s0 : Pt} (h : Fit s0 m0) (hc : m0.count ≤ 900000) : s0.Ok := ⟨h.le, by have := h.len; omega⟩
theorem eword (h : SysE w0 b c r pb po t G w m s) (hc : m.count ≤ 900000) (k : Int) :
    Calls Tryd.prog 48 #[.pointer (some ⟨pb, po, none⟩), .int .i64 k] w fun e w' => Ev w0 b c r pb po t G w (fun _ a v => v = .tuple #[.int .i64 a.n, .int .i64 a.err]) (s.ask (.word k) m) e w' := by
  obtain ⟨m0, s0, hS, hm, hs, hf, rfl, rfl⟩ := h
  have hc : m0.count ≤ 900000 := hc
  refine (pword_any hS (by omega) (hf.pok hc) k).mono fun e w' h => ?_
  exact (ev_ask (q := .word k) hm hs hf trivial h).mono fun G' a v ⟨a0, e, _, hv⟩ => by rw [hv, ← e]; rfl
theorem eload (h : SysE w0 b c r pb po t G w m s) (hc : m.count ≤ 900000) (k : Int) :
    Calls Tryd.prog 66 #[.pointer (some ⟨pb, po, none⟩), .int .i64 k] w fun e w' => Ev w0 b c r pb po t G w (fun G' a v => ∃ x : Held, x.e = a.held ∧ x.In G' ∧ v = .tuple #[x.v, .int .i64 a.err]) (s.ask (.load k) m) e w' := by
  obtain ⟨m0, s0, hS, hm, hs, hf, rfl, rfl⟩ := h
  have hc : m0.count ≤ 900000 := hc
  refine (pload_any hS (by omega) (hf.pok hc) k).mono fun e w' h => ?_
  exact (ev_ask (q := .load k) hm hs hf trivial h).mono fun G' a v ⟨a0, e, hi, hv⟩ => ⟨a0.held, by rw [← e]; rfl, hi, by rw [hv, ← e]; rfl⟩
theorem eallocword (h : SysE w0 b c r pb po t G w m s) (hT : TabAt w0) (hc : m.count ≤ 900000) (k : Int) :
    Calls Tryd.prog 81 #[.pointer (some ⟨pb, po, none⟩), .int .i64 k] w fun e w' => Ev w0 b c r pb po t G w (fun _ a v => v = .tuple #[.int .i64 a.n, .int .i64 a.err]) (s.ask (.alloc (.word k)) m) e w' := by
  obtain ⟨m0, s0, hS, hm, hs, hf, rfl, rfl⟩ := h
  have hc : m0.count ≤ 900000 := hc
  refine (palloc_any hS hT (by omega) (hf.pok hc) k).mono fun e w' h => ?_
  exact (ev_ask (q := .alloc (.word k)) hm hs hf word_in h).mono fun G' a v ⟨a0, e, _, hv⟩ => by rw [hv, ← e]; rfl
theorem eallocblk (h : SysE w0 b c r pb po t G w m s) (hT : TabAt w0) (hc : m.count ≤ 900000) (d : Dat) (pl : Pl) (hd : d.In G pl) :
    Calls Tryd.prog 83 #[.pointer (some ⟨pb, po, none⟩), .iface d.ty (d.v pl)] w fun e w' => Ev w0 b c r pb po t G w (fun _ a v => v = .tuple #[.int .i64 a.n, .int .i64 a.err]) (s.ask (.alloc (.blk d .nil)) m) e w' := by
  obtain ⟨m0, s0, hS, hm, hs, hf, rfl, rfl⟩ := h
  have hc : m0.count ≤ 900000 := hc
  refine (pallocblk_any hS hT (by omega) (hf.pok hc) d pl).mono fun e w' h => ?_
  exact (ev_ask (q := .alloc (.blk d pl)) hm hs hf (fun _ _ e => by cases e; exact hd) h).mono fun G' a v ⟨a0, e, _, hv⟩ => by rw [hv, ← e]; rfl
theorem efree (h : SysE w0 b c r pb po t G w m s) (hc : m.count ≤ 900000) (k : Int) :
    Calls Tryd.prog 98 #[.pointer (some ⟨pb, po, none⟩), .int .i64 k] w fun e w' => Ev w0 b c r pb po t G w (fun _ a v => v = .int .i64 a.err) (s.ask (.free k) m) e w' := by
  obtain ⟨m0, s0, hS, hm, hs, hf, rfl, rfl⟩ := h
  have hc : m0.count ≤ 900000 := hc
  refine (pfree_any hS (by omega) (hf.pok hc) k).mono fun e w' h => ?_
  exact (ev_ask (q := .free k) hm hs hf trivial h).mono fun G' a v ⟨a0, e, _, hv⟩ => by rw [hv, ← e]; rfl
end
end Go.Proofs.YtibimnibmengpaaDoor
/- What asks come to where nobody stops them: Do. No condition. -/
namespace Go.Proofs.YtibimnibmengpaaDoor
open Go.RowKit Go.Op
set_option maxRecDepth 100000

/-- A program, done. -/
def Pr.go {α : Type} : Pr α → M → α × M
  | .ret a, m => (a, m)
  | .ask q k, m => (k (q.on m).2).go (q.on m).1
theorem Pr.go_bind {α β : Type} : ∀ (p : Pr α) (f : α → Pr β) (m : M), (p.bind f).go m = (f (p.go m).1).go (p.go m).2
  | .ret _, _, _ => rfl
  | .ask q k, f, m => Pr.go_bind (k (q.on m).2) f (q.on m).1
structure Quiet (s : Pt) : Prop where
  told : s.told = []
  spent : s.spent = false
  keeps : s.keeps = false
theorem Quiet.ask {s : Pt} (h : Quiet s) (q : Qn) (m : M) : s.ask q m = (some (q.on m).2, s, (q.on m).1) := Pt.ask_do (by rw [h.told]; rfl) h.spent h.keeps q m
theorem Quiet.run {α : Type} {s : Pt} (h : Quiet s) : ∀ (p : Pr α) (m : M), p.run s m = (some (p.go m).1, s, (p.go m).2)
  | .ret _, _ => by simp only [Pr.run, Pr.go]
  | .ask q k, m => by
    rw [Pr.run_ask, h.ask]
    exact Quiet.run h (k (q.on m).2) (q.on m).1
section
variable {w0 : World} {b c r pb po : Nat} {t t1 : Value} {G G1 : List (Nat × List Value)} {w w1 w2 : World} {m m1 : M} {s s1 : Pt}
theorem Ev.done {α : Type} {R : List (Nat × List Value) → α → Value → Prop} {p : Pr α} {e : Ending} (h : Ev w0 b c r pb po t G w R (p.run s m) e w1) (hs : Quiet s) :
    ∃ t' G' v, e = .returned v ∧ R G' (p.go m).1 v ∧ Aft w0 b c r pb po t G w t' G' w1 (p.go m).2 s := by
  rw [hs.run] at h
  obtain ⟨t', G', ⟨v, h1, h2⟩, h3⟩ := h
  exact ⟨t', G', v, h1, h2, h3⟩
theorem Ev.done1 {R : List (Nat × List Value) → An → Value → Prop} {q : Qn} {e : Ending} (h : Ev w0 b c r pb po t G w R (s.ask q m) e w1) (hs : Quiet s) :
    ∃ t' G' v, e = .returned v ∧ R G' (q.on m).2 v ∧ Aft w0 b c r pb po t G w t' G' w1 (q.on m).1 s := by
  rw [hs.ask] at h
  obtain ⟨t', G', ⟨v, h1, h2⟩, h3⟩ := h
  exact ⟨t', G', v, h1, h2, h3⟩
/-- Memory between two calls, rows' places set aside. -/
def HasE (w0 : World) (b c r : Nat) (G : List (Nat × List Value)) (w : World) (m : M) : Prop :=
  ∃ m0 : M, Has w0 b c r m0.count w m0 ∧ m0.In G ∧ 0 ≤ m0.count ∧ m0.e = m ∧ ∀ g l, (g, l) ∈ G → Rw w g l ∧ w0.heap.size ≤ g ∧ g ≠ b ∧ g ≠ c ∧ g ≠ r
theorem HasE.later (h : HasE w0 b c r G w m) (hb : Below w.heap.size w w1) : HasE w0 b c r G w1 m := by
  obtain ⟨m0, h1, h2, h3, h4, h5⟩ := h
  exact ⟨m0, h1.later hb, h2, h3, h4, fun g l hg => let ⟨q1, q2⟩ := h5 g l hg; ⟨q1.same hb.size (hb.block g q1.lt), q2⟩⟩
/-- A change of other blocks. -/
theorem HasE.aside (h : HasE w0 b c r G w m) {z : Nat} (hk : But z w w1) (hz : z ≠ b ∧ z ≠ c ∧ z ≠ r ∧ w0.heap.size ≤ z ∧ ∀ x, x ∈ G → x.1 ≠ z) : HasE w0 b c r G w1 m := by
  obtain ⟨m0, h1, h2, h3, h4, h5⟩ := h
  have o := h1.at_.own
  obtain ⟨z1, z2, z3, z4, z5⟩ := hz
  refine ⟨m0, h1.same hk.size (h1.below.trans ⟨hk.os, hk.tape, hk.output, hk.size, fun k hk2 => hk.block k (Nat.lt_of_lt_of_le hk2 h1.below.size) (by omega)⟩) (hk.block b o.lb z1.symm) (hk.block c o.lc z2.symm) (hk.block r o.lr z3.symm), h2, h3, h4, fun g l hg => ?_⟩
  obtain ⟨q1, q2⟩ := h5 g l hg
  exact ⟨q1.same hk.size (hk.block g q1.lt (z5 _ hg)), q2⟩
def portObj (b : Nat) : Obj := .cells #[.pointer (some ⟨b, 0, none⟩), .bool false, .slice none 0 0, .int .i64 0, .int .i64 0, .bool false, .bool false] 94
def ptDo (w : World) (b : Nat) : Pt := ⟨false, [], 0, 0, false, false, fun i => (w.alloc (portObj b)).cell? ⟨w.heap.size, i, none⟩⟩
theorem ptDo_quiet (w : World) (b : Nat) : Quiet (ptDo w b) := ⟨rfl, rfl, rfl⟩
theorem do_start (h : HasE w0 b c r G w m) : SysE w0 b c r w.heap.size 0 (.slice none 0 0) G (w.alloc (portObj b)) m (ptDo w b) := by
  obtain ⟨m0, h1, h2, h3, h4, h5⟩ := h
  have hb := (Below.refl w.heap.size w).alloc (Nat.le_refl _) (portObj b)
  have o := h1.at_.own
  have k : ∀ i, (w.alloc (portObj b)).cell? ⟨w.heap.size, i, none⟩ = (#[.pointer (some ⟨b, 0, none⟩), .bool false, .slice none 0 0, .int .i64 0, .int .i64 0, .bool false, .bool false] : Array Value)[i]? := fun i => World.cell?_alloc_new _ _ _ _
  have q1 := o.lb
  have q2 := o.lc
  have q3 := o.lr
  refine ⟨m0, ptDo w b, ⟨h1.later hb, ⟨⟨k 0, k 1, k 2, k 3, k 4, k 5, k 6⟩, fun i => World.frozen?_alloc_at _ 94 _ i rfl, World.ownsRow_nil _ _ _ _, fun e => (by cases e), fun i _ => rfl⟩, ⟨by omega, by omega, by omega⟩, ⟨fun e => (by cases e), fun e => (by cases e), fun e => (by cases e)⟩, h1.below.size, fun g l hg => ?_⟩, h2, fun i a ha => (by simp [ptDo] at ha), ⟨h1.ok, Nat.le_refl _, by simpa [ptDo] using h3⟩, h4, rfl⟩
  obtain ⟨r1, r2, r3, r4, r5⟩ := h5 g l hg
  exact ⟨r1.same hb.size (hb.block g r1.lt), r2, r3, r4, r5, by have := r1.lt; omega, fun e => (by cases e)⟩
theorem SysE.mem (h : SysE w0 b c r pb po t G w m s) : HasE w0 b c r G w m := by
  obtain ⟨m0, s0, h1, h2, h3, h4, h5, h6⟩ := h
  exact ⟨m0, h1.has, h2, by have := h4.ok.cnt; omega, h5, fun g l hg => let ⟨q1, q2, q3, q4, q5, _⟩ := h1.rows g l hg; ⟨q1, q2, q3, q4, q5⟩⟩
/-- Below B all but some blocks is as it was. -/
structure ButN (Z : List Nat) (B : Nat) (w w' : World) : Prop where
  os : w'.os = w.os
  tape : w'.tape = w.tape
  output : w'.output = w.output
  size : w.heap.size ≤ w'.heap.size
  block : ∀ k, k < B → k ∉ Z → w'.heap[k]? = w.heap[k]?
theorem ButN.trans {Z : List Nat} {B : Nat} (h : ButN Z B w w1) (k : ButN Z B w1 w2) : ButN Z B w w2 :=
  ⟨k.os.trans h.os, k.tape.trans h.tape, k.output.trans h.output, Nat.le_trans h.size k.size, fun i hi hz => (k.block i hi hz).trans (h.block i hi hz)⟩
theorem ButN.of {Z : List Nat} {B : Nat} (h : Below w.heap.size w w1) (hB : B ≤ w.heap.size) : ButN Z B w w1 := ⟨h.os, h.tape, h.output, h.size, fun k hk _ => h.block k (Nat.lt_of_lt_of_le hk hB)⟩
theorem ButN.but {Z : List Nat} {B z : Nat} (h : But z w w1) (hB : B ≤ w.heap.size) (hz : z ∈ Z ∨ B ≤ z) : ButN Z B w w1 := ⟨h.os, h.tape, h.output, h.size, fun k hk hn => h.block k (Nat.lt_of_lt_of_le hk hB) (fun e => hz.elim (fun e2 => hn (e ▸ e2)) fun e2 => by omega)⟩
/-- In the midst of a call of Do: what was changed since w. -/
structure Dgo (w0 : World) (b c r pb : Nat) (Z : List Nat) (w : World) (t1 : Value) (G : List (Nat × List Value)) (G1 : List (Nat × List Value)) (w1 : World) (m1 : M) (s1 : Pt) : Prop where
  sys : SysE w0 b c r pb 0 t1 G1 w1 m1 s1
  but : ButN Z w.heap.size w w1
  own : ∀ k, t1.ownBlock = some k → w.heap.size ≤ k
  pb : w.heap.size ≤ pb
  inz : b ∈ Z ∧ c ∈ Z ∧ r ∈ Z
  gro : Grow w G G1
theorem Dgo.start (h : HasE w0 b c r G w m) {Z : List Nat} (hz : b ∈ Z ∧ c ∈ Z ∧ r ∈ Z) : Dgo w0 b c r w.heap.size Z w (.slice none 0 0) G G (w.alloc (portObj b)) m (ptDo w b) :=
  ⟨do_start h, ButN.of ((Below.refl w.heap.size w).alloc (Nat.le_refl _) _) (Nat.le_refl _), fun k e => (by cases e), Nat.le_refl _, hz, Grow.refl _ _⟩
section
variable {Z : List Nat} {t2 : Value} {G0 G2 : List (Nat × List Value)} {m2 : M} {s2 : Pt}
theorem Dgo.aft (h : Dgo w0 b c r pb Z w t1 G0 G1 w1 m1 s1) (k : Aft w0 b c r pb 0 t1 G1 w1 t2 G2 w2 m2 s2) : Dgo w0 b c r pb Z w t2 G0 G2 w2 m2 s2 :=
  ⟨k.sys, h.but.trans ⟨k.but.os, k.but.tape, k.but.output, k.but.size, fun i hi hz => k.but.block i (Nat.lt_of_lt_of_le hi h.but.size) (fun e => hz (e ▸ h.inz.1)) (fun e => hz (e ▸ h.inz.2.1)) (fun e => hz (e ▸ h.inz.2.2)) (by have := h.pb; omega) (fun e => by have := h.own i e.symm; omega)⟩, fun i e => by
    rcases k.row i e with e2 | e2
    · exact h.own i e2
    · exact Nat.le_trans h.but.size e2, h.pb, h.inz, h.gro.trans h.but.size k.gro⟩
theorem Dgo.later (h : Dgo w0 b c r pb Z w t1 G0 G1 w1 m1 s1) (hb : Below w1.heap.size w1 w2) : Dgo w0 b c r pb Z w t1 G0 G1 w2 m1 s1 :=
  ⟨h.sys.later hb, h.but.trans (ButN.of hb h.but.size), h.own, h.pb, h.inz, h.gro⟩
theorem Dgo.aside (h : Dgo w0 b c r pb Z w t1 G0 G1 w1 m1 s1) {z : Nat} (hk : But z w1 w2) (hl : Loc w0 b c r pb t1 G1 w1 z) (hz : z ∈ Z ∨ w.heap.size ≤ z) : Dgo w0 b c r pb Z w t1 G0 G1 w2 m1 s1 :=
  ⟨h.sys.aside hk hl, h.but.trans (ButN.but hk h.but.size hz), h.own, h.pb, h.inz, h.gro⟩
/-- A block that stood before. -/
theorem Dgo.old (h : Dgo w0 b c r pb Z w t1 G0 G1 w1 m1 s1) {z : Nat} (hz : z < w.heap.size) (hn : z ≠ b ∧ z ≠ c ∧ z ≠ r) (hg : w0.heap.size ≤ z) (hG : ∀ x, x ∈ G0 → x.1 ≠ z) : Loc w0 b c r pb t1 G1 w1 z :=
  ⟨Nat.lt_of_lt_of_le hz h.but.size, hg, ⟨hn.1, hn.2.1, hn.2.2, by have := h.pb; omega⟩, fun e => by have := h.own z e; omega, fun x hx e => (h.gro.2 x hx).elim (fun e2 => hG x e2 e) fun e2 => by omega⟩
end
/-- A block of the law's own beside memory and rows. -/
structure LocM (w0 : World) (b c r : Nat) (G : List (Nat × List Value)) (w : World) (z : Nat) : Prop where
  lt : z < w.heap.size
  ge : w0.heap.size ≤ z
  ne : z ≠ b ∧ z ≠ c ∧ z ≠ r
  ng : ∀ x, x ∈ G → x.1 ≠ z
theorem HasE.fresh (h : HasE w0 b c r G w m) (o : Obj) : LocM w0 b c r G (w.alloc o) w.heap.size := by
  obtain ⟨m0, h1, h2, h3, h4, h5⟩ := h
  have o := h1.at_.own
  have h3 := o.lb
  have h4 := o.lc
  have h6 := o.lr
  exact ⟨by simp, h1.below.size, ⟨by omega, by omega, by omega⟩, fun x hx e => by have := (h5 x.1 x.2 hx).1.lt; omega⟩
theorem LocM.later {z : Nat} (h : LocM w0 b c r G w z) (hs : w.heap.size ≤ w1.heap.size) (hg : Grow w G G1) : LocM w0 b c r G1 w1 z :=
  ⟨Nat.lt_of_lt_of_le h.lt hs, h.ge, h.ne, fun x hx e => (hg.2 x hx).elim (fun e2 => h.ng x e2 e) fun e2 => by have := h.lt; omega⟩
theorem LocM.loc {Z : List Nat} {t2 : Value} {m2 : M} {s2 : Pt} {z : Nat} (h : LocM w0 b c r G w z) (hd : Dgo w0 b c r pb Z w t2 G G1 w1 m2 s2) : Loc w0 b c r pb t2 G1 w1 z := hd.old h.lt h.ne h.ge h.ng
/-- Do does what its function does. -/
theorem do_any (w : World) (b : Nat) (fk : FuncId) (caps : Array Value) (Q : Value → World → Prop) (he : ∀ zs w, (callFunc fk zs).run Tryd.prog w = .ok (.enter fk zs) w)
    (hf : Calls Tryd.prog fk (#[.pointer (some ⟨w.heap.size, 0, none⟩)] ++ caps) (w.alloc (portObj b)) fun e w' => ∃ v, e = .returned v ∧ Q v w') :
    Calls Tryd.prog 15 #[.pointer (some ⟨b, 0, none⟩), .func (.func fk) #[] caps] w fun e w' => ∃ v, e = .returned v ∧ Q v w' := by
  unfold portObj at hf
  go_enter Tryd.func15, Tryd.ntmps15
  go_wp2_with fail
  refine hf.mono ?_
  rintro e w1 ⟨v, rfl, hq⟩
  have HQ := Lib.hid hq
  clear hf hq
  go_wp2
  go_ret
  exact ⟨v, rfl, HQ.out⟩
end
end Go.Proofs.YtibimnibmengpaaDoor
/- A machine's step: a program run from its log. No condition. -/
namespace Go.Proofs.YtibimnibmengpaaDoor
open Go.RowKit Go.Op
set_option maxRecDepth 100000

/-- What is left of a program behind some answers. -/
def Pr.rest {α : Type} : Pr α → List An → Pr α
  | p, [] => p
  | .ret a, _ :: _ => .ret a
  | .ask _ k, a :: l => (k a).rest l
/-- A program that asks for each of them. -/
def Pr.goes {α : Type} : Pr α → List An → Prop
  | _, [] => True
  | .ret _, _ :: _ => False
  | .ask _ k, a :: l => (k a).goes l
theorem Pr.rest_snoc {α : Type} {q : Qn} {k : An → Pr α} (a : An) : ∀ (l : List An) (p : Pr α), p.goes l → p.rest l = .ask q k → p.rest (l ++ [a]) = k a ∧ p.goes (l ++ [a])
  | [], p, _, h => by
    have e : p = .ask q k := by simpa [Pr.rest] using h
    subst e
    simp [Pr.rest, Pr.goes]
  | x :: l, .ret _, hg, _ => by simp [Pr.goes] at hg
  | x :: l, .ask q2 k2, hg, h => by
    simp only [Pr.goes] at hg
    simp only [Pr.rest] at h
    simp only [List.cons_append, Pr.rest, Pr.goes]
    exact Pr.rest_snoc a l (k2 x) hg h
theorem Pr.run_told {α : Type} : ∀ (l pre : List An) (p : Pr α) (s : Pt) (m : M), p.goes l → s.told = pre ++ l → s.place = pre.length → p.run s m = (p.rest l).run { s with place := s.told.length } m
  | [], pre, p, s, m, _, ht, hp => by
    have : s = { s with place := s.told.length } := by
      obtain ⟨a, b, c, d, e, f, g⟩ := s
      simp only at ht hp ⊢
      rw [hp, ht]; simp
    rw [← this]
    simp [Pr.rest]
  | a :: l, pre, .ret _, s, m, hg, _, _ => by simp [Pr.goes] at hg
  | a :: l, pre, .ask q k, s, m, hg, ht, hp => by
    simp only [Pr.goes] at hg
    have hx : s.told[s.place]? = some a := by rw [ht, hp]; simp
    rw [Pr.run_ask, Pt.ask_told hx]
    simp only
    rw [Pr.run_told l (pre ++ [a]) (k a) { s with place := s.place + 1 } m hg (by simp [ht]) (by simp [hp])]
    simp only [Pr.rest]
/-- A fresh port of a machine. -/
structure Fresh (s : Pt) : Prop where
  keeps : s.keeps = true
  place : s.place = 0
  spent : s.spent = false
theorem Pr.run_ret {α : Type} {p : Pr α} {s : Pt} {m : M} {a : α} (h : Fresh s) (hg : p.goes s.told) (hr : p.rest s.told = .ret a) : p.run s m = (some a, { s with place := s.told.length }, m) := by
  rw [Pr.run_told s.told [] p s m hg rfl h.place, hr]
  simp only [Pr.run]
theorem Pr.run_last {α : Type} {p : Pr α} {s : Pt} {m : M} {q : Qn} {k : An → Pr α} {b : α} (h : Fresh s) (hg : p.goes s.told) (hr : p.rest s.told = .ask q k) (hk : k (q.on m).2 = .ret b) :
    p.run s m = (some b, { s with told := s.told ++ [(q.on m).2], place := s.told.length + 1, spent := true }, (q.on m).1) := by
  rw [Pr.run_told s.told [] p s m hg rfl h.place, hr, Pr.run_ask, Pt.ask_keep (s := { s with place := s.told.length }) (by simp) h.spent h.keeps]
  simp only [hk, Pr.run]
theorem Pr.run_more {α : Type} {p : Pr α} {s : Pt} {m : M} {q q2 : Qn} {k k2 : An → Pr α} (h : Fresh s) (hg : p.goes s.told) (hr : p.rest s.told = .ask q k) (hk : k (q.on m).2 = .ask q2 k2) :
    p.run s m = (none, { s with told := s.told ++ [(q.on m).2], place := s.told.length + 1, spent := true, halted := true }, (q.on m).1) := by
  rw [Pr.run_told s.told [] p s m hg rfl h.place, hr, Pr.run_ask, Pt.ask_keep (s := { s with place := s.told.length }) (by simp) h.spent h.keeps]
  simp only [hk]
  rw [Pr.run_ask, Pt.ask_halt (by simp) rfl]
end Go.Proofs.YtibimnibmengpaaDoor
/- Many machines of one memory, rows' places set aside: a step of one, memory asked by others. Conditions: at most 900000 asks. -/
namespace Go.Proofs.YtibimnibmengpaaDoor
open Go.RowKit Go.Op
set_option maxRecDepth 100000

theorem ask_facts (s : Pt) (q : Qn) (m : M) : (s.ask q m).2.1.keeps = s.keeps ∧ ((s.ask q m).1.isSome = true → (s.ask q m).2.1.halted = s.halted) := by
  cases hx : s.told[s.place]? with
  | some a => rw [Pt.ask_told hx]; exact ⟨rfl, fun _ => rfl⟩
  | none =>
    cases hs : s.spent with
    | true => rw [Pt.ask_halt hx hs]; exact ⟨rfl, fun e => (by cases e)⟩
    | false =>
      cases hk : s.keeps with
      | true => rw [Pt.ask_keep hx hs hk]; exact ⟨hk, fun _ => rfl⟩
      | false => rw [Pt.ask_do hx hs hk]; exact ⟨hk, fun _ => rfl⟩
/-- What a run leaves of a port, and of memory's count. -/
structure RunF {α : Type} (s : Pt) (m : M) (o : Option α × Pt × M) : Prop where
  ext : o.2.1.ext = s.ext
  keeps : o.2.1.keeps = s.keeps
  live : o.1.isSome = true → o.2.1.halted = s.halted
  cnt : m.count ≤ o.2.2.count
theorem Pr.run_facts {α : Type} : ∀ (p : Pr α) (s : Pt) (m : M), RunF s m (p.run s m)
  | .ret a, s, m => ⟨rfl, rfl, fun _ => rfl, Int.le_refl _⟩
  | .ask q k, s, m => by
    obtain ⟨h1, h2⟩ := ask_facts s q m
    obtain ⟨h3, _, h4⟩ := ask_count s q m
    rw [Pr.run_ask]
    generalize s.ask q m = u at h1 h2 h3 h4 ⊢
    obtain ⟨_ | a, s', m'⟩ := u
    · exact ⟨h4, h1, fun e => (by cases e), h3⟩
    · have ih := Pr.run_facts (k a) s' m'
      show RunF s m ((k a).run s' m')
      exact ⟨ih.ext.trans h4, ih.keeps.trans h1, fun e => (ih.live e).trans (h2 rfl), Int.le_trans h3 ih.cnt⟩

/-- What a handle leads to. -/
def M.look (m : M) (h : Int) : Option Held := (m.at h).map fun px => px.2.held
theorem look_some {m : M} {h : Int} {x : Held} (hl : m.look h = some x) : ∃ p y, m.at h = some (p, y) ∧ y.held = x ∧ m.cells[p]? = some y ∧ y.held.busy = true ∧ (p : Int) = h % 65536 - 1 ∧ y.gen = h / 65536 ∧ isH h = true := by
  unfold M.look at hl
  cases ha : m.at h with
  | none => rw [ha] at hl; cases hl
  | some py =>
    obtain ⟨p, y⟩ := py
    rw [ha] at hl
    simp only [Option.map_some, Option.some.injEq] at hl
    obtain ⟨h1, h2, h3⟩ := at_is ha
    obtain ⟨q1, q2, z, q3, q4, q5⟩ := M.seek_some h1
    rw [h2] at q3
    cases q3
    exact ⟨p, y, rfl, hl, h2, h3, q2, q5, q1⟩
theorem look_of {m : M} {h : Int} {p : Nat} {y : Cl} (hi : isH h = true) (hp : (p : Int) = h % 65536 - 1) (hc : m.cells[p]? = some y) (hb : y.held.busy = true) (hg : y.gen = h / 65536) : m.look h = some y.held := by
  have hs : m.seek h = some p := by
    unfold M.seek
    rw [if_pos hi, show (h % 65536 - 1).toNat = p by omega, hc]
    simp only
    rw [if_pos ⟨hb, hg⟩]
  unfold M.look
  rw [at_some hs hc]
  rfl
theorem look_none {m : M} {h : Int} (hn : ¬ ∃ (p : Nat) (y : Cl), isH h = true ∧ (p : Int) = h % 65536 - 1 ∧ m.cells[p]? = some y ∧ y.held.busy = true ∧ y.gen = h / 65536) : m.look h = none := by
  cases hl : m.look h with
  | none => rfl
  | some x =>
    obtain ⟨p, y, _, _, h3, h4, h5, h6, h7⟩ := look_some hl
    exact absurd ⟨p, y, h7, h5, h3, h4, h6⟩ hn
/-- The same cells. -/
theorem look_cells {m m' : M} (h : m'.cells = m.cells) (k : Int) : m'.look k = m.look k := by
  have hs : m'.seek k = m.seek k := by unfold M.seek; rw [h]
  unfold M.look M.at
  rw [hs, h]
theorem look_ask (m : M) (k : Int) : m.ask.look k = m.look k := look_cells rfl k
/-- A cell that was busy is busy. -/
theorem look_set {m : M} {p : Nat} {x y : Cl} (hx : m.cells[p]? = some x) (hy : y.held.busy = true) (hg : y.gen = x.gen) (n l s : Int) (k : Int) :
    M.look ⟨m.cells.set p y, n, l, s⟩ k = if isH k = true ∧ (p : Int) = k % 65536 - 1 ∧ x.gen = k / 65536 then some y.held else m.look k := by
  have hp := (List.getElem?_eq_some_iff.1 hx).1
  split
  · rename_i h
    exact look_of (m := ⟨m.cells.set p y, n, l, s⟩) h.1 h.2.1 (List.getElem?_set_self hp) hy (by rw [hg]; exact h.2.2)
  · rename_i h
    cases hl : m.look k with
    | none =>
      refine look_none ?_
      rintro ⟨q, z, h1, h2, h3, h4, h5⟩
      by_cases e : p = q
      · subst e
        simp only [List.getElem?_set_self hp, Option.some.injEq] at h3
        subst h3
        exact h ⟨h1, h2, by rw [← hg]; exact h5⟩
      · simp only [List.getElem?_set_ne e] at h3
        rw [look_of h1 h2 h3 h4 h5] at hl
        cases hl
    | some v =>
      obtain ⟨q, z, _, hz, h3, h4, h5, h6, h7⟩ := look_some hl
      have e : p ≠ q := fun e => by
        subst e
        rw [hx] at h3
        cases h3
        exact h ⟨h7, h5, h6⟩
      rw [← hz]
      exact look_of (m := ⟨m.cells.set p y, n, l, s⟩) h7 h5 (by simp only [List.getElem?_set_ne e]; exact h3) h4 h6
theorem look_at {m : M} {h : Int} {p : Nat} {x : Cl} (ha : m.at h = some (p, x)) (k : Int) : (isH k = true ∧ (p : Int) = k % 65536 - 1 ∧ x.gen = k / 65536) ↔ k = h := by
  have hl : m.look h = some x.held := by unfold M.look; rw [ha]; rfl
  obtain ⟨q, z, h1, _, _, _, h5, h6, h7⟩ := look_some hl
  rw [ha] at h1
  cases h1
  constructor
  · rintro ⟨_, h8, h9⟩
    have e1 : k % 65536 = h % 65536 := by omega
    have e2 : k / 65536 = h / 65536 := by omega
    omega
  · rintro rfl
    exact ⟨h7, h5, h6⟩
theorem look_put {m : M} {h : Int} {p : Nat} {x y : Cl} (ha : m.at h = some (p, x)) (hx : m.cells[p]? = some x) (hy : y.held.busy = true) (hg : y.gen = x.gen) (n l s : Int) (k : Int) :
    M.look ⟨m.cells.set p y, n, l, s⟩ k = if k = h then some y.held else m.look k := by
  rw [look_set hx hy hg]
  by_cases e : k = h
  · rw [if_pos e, if_pos ((look_at ha k).2 e)]
  · rw [if_neg e, if_neg fun h2 => e ((look_at ha k).1 h2)]
/-- What holds of memory's counts. -/
structure Tidy (g : Int) (m : M) : Prop where
  gen : ∀ (i : Nat) (x : Cl), m.cells[i]? = some x → 0 ≤ x.gen ∧ x.gen ≤ g
  liv : m.live = ((m.cells.countP fun x => x.held.busy : Nat) : Int)
theorem Tidy.ask {g : Int} {m : M} (h : Tidy g m) : Tidy g m.ask := ⟨h.gen, h.liv⟩
theorem countP_set {l : List Cl} {p : Nat} {x y : Cl} (hx : l[p]? = some x) : ((l.set p y).countP fun z => z.held.busy) + (if x.held.busy = true then 1 else 0) = (l.countP fun z => z.held.busy) + (if y.held.busy = true then 1 else 0) := by
  induction l generalizing p with
  | nil => simp at hx
  | cons a l ih =>
    cases p with
    | zero =>
      simp only [List.getElem?_cons_zero, Option.some.injEq] at hx
      subst hx
      simp only [List.set_cons_zero, List.countP_cons]
      omega
    | succ p =>
      simp only [List.getElem?_cons_succ] at hx
      have := ih hx
      simp only [List.set_cons_succ, List.countP_cons]
      omega
theorem Tidy.set {g g' : Int} {m : M} (h : Tidy g m) {p : Nat} {x y : Cl} (hx : m.cells[p]? = some x) (hg : 0 ≤ y.gen ∧ y.gen ≤ g') (hgg : g ≤ g') (n l s : Int) (hl : l + (if x.held.busy = true then 1 else 0) = m.live + (if y.held.busy = true then 1 else 0)) : Tidy g' ⟨m.cells.set p y, n, l, s⟩ := by
  refine ⟨fun i z hz => ?_, ?_⟩
  · simp only [List.getElem?_set] at hz
    split at hz
    · split at hz
      · cases hz; exact hg
      · cases hz
    · have := h.gen i z hz
      omega
  · have := countP_set (y := y) hx
    have h2 := h.liv
    simp only
    split at hl <;> split at hl <;> simp_all <;> omega
theorem room {g : Int} {m : M} (h : Tidy g m) (hc : g ≤ 16000) (hl : m.live < (m.cells.length : Int)) : ∃ x, m.cells[m.least]? = some x := by
  have hex : ∃ x ∈ m.cells, x.held.busy = false := by
    apply Classical.byContradiction
    intro hn
    have : (m.cells.countP fun x => x.held.busy) = m.cells.length := List.countP_eq_length.2 fun x hx => by
      cases hb : x.held.busy with
      | true => rfl
      | false => exact absurd ⟨x, hx, hb⟩ hn
    have := h.liv
    omega
  obtain ⟨x, hx, hb⟩ := hex
  obtain ⟨i, hi, he⟩ := List.mem_iff_getElem.1 hx
  have hg := h.gen i x (by rw [List.getElem?_eq_getElem hi, he])
  have hcan : x.can = true := by
    unfold Cl.can
    rw [hb]
    simp; omega
  have hlt : m.least < m.flags.length := by
    unfold M.least
    apply List.findIdx_lt_length_of_exists
    refine ⟨x.can, ?_, hcan⟩
    unfold M.flags
    exact List.mem_map_of_mem hx
  have : m.flags.length = m.cells.length := by simp [M.flags]
  exact ⟨_, List.getElem?_eq_getElem (by omega)⟩
section
variable {m : M} {g : Int}
theorem look_word {h n : Int} (hl : m.look h = some (.word n)) : m.word h = (m.ask, n, 0) := by
  obtain ⟨p, y, ha, hy, -⟩ := look_some hl
  unfold M.word
  rw [ha]
  simp only [hy]
theorem look_load {h : Int} {d : Dat} {pl : Pl} (hl : m.look h = some (.blk d pl)) : m.load h = (m.ask, .blk d pl, 0) := by
  obtain ⟨p, y, ha, hy, -⟩ := look_some hl
  unfold M.load
  rw [ha]
  simp only [hy]
theorem swap_no {h o k n : Int} (hl : m.look h = some (.word k)) (hk : k ≠ o) : m.swap h o n = (m.ask, false, 0) := by
  obtain ⟨p, y, ha, hy, -⟩ := look_some hl
  unfold M.swap
  rw [ha]
  simp only [hy]
  rw [if_neg hk]
theorem swap_yes {h o n : Int} (hl : m.look h = some (.word o)) : ∃ m', m.swap h o n = (m', true, 0) ∧ (∀ k, m'.look k = if k = h then some (.word n) else m.look k) ∧ (∀ g, Tidy g m → Tidy g m') ∧ m'.live = m.live ∧ m'.cells.length = m.cells.length ∧ m'.count = m.count + 1 := by
  obtain ⟨p, y, ha, hy, hc, hb, -⟩ := look_some hl
  unfold M.swap
  rw [ha]
  simp only [hy, if_true]
  refine ⟨_, rfl, fun k => ?_, fun g ht => ?_, rfl, by show (m.cells.set _ _).length = _; rw [List.length_set], rfl⟩
  · show M.look ⟨m.cells.set p { y with held := .word n }, _, _, _⟩ k = _
    rw [look_put ha hc (y := { y with held := .word n }) rfl rfl]
  · have hg := ht.gen p y hc
    exact ht.set hc (y := { y with held := .word n }) hg (Int.le_refl _) _ _ _ (by simp only [hb]; rfl)
theorem retire_yes {h s : Int} {x : Held} (hl : m.look h = some x) : ∃ m', m.retire h s = (m', 0) ∧ (∀ k, m'.look k = m.look k) ∧ (∀ g, Tidy g m → Tidy g m') ∧ m'.live = m.live ∧ m'.cells.length = m.cells.length ∧ m'.count = m.count + 1 := by
  obtain ⟨p, y, ha, hy, hc, hb, -⟩ := look_some hl
  unfold M.retire
  rw [ha]
  refine ⟨_, rfl, fun k => ?_, fun g ht => ?_, rfl, by show (m.cells.set _ _).length = _; rw [List.length_set], rfl⟩
  · show M.look ⟨m.cells.set p (y.retired s), _, _, _⟩ k = _
    rw [look_put ha hc (y := y.retired s) hb rfl]
    split
    · rename_i e
      subst e
      rw [hl, ← hy]; rfl
    · rfl
  · have hg := ht.gen p y hc
    exact ht.set hc (y := y.retired s) hg (Int.le_refl _) _ _ _ (by rw [show (y.retired s).held = y.held from rfl]; rfl)
theorem alloc_yes (ht : Tidy g m) (hc : g ≤ 16000) (hl : m.live < (m.cells.length : Int)) (hlen : m.cells.length ≤ 65535) (x : Held) (hx : x.busy = true) :
    ∃ m' h, m.alloc x = (m', h, 0) ∧ m.look h = none ∧ (∀ k, m'.look k = if k = h then some x else m.look k) ∧ Tidy g m' ∧ m'.live = m.live + 1 ∧ m'.cells.length = m.cells.length ∧ m'.count = m.count + 1 ∧ h ≠ 0 := by
  obtain ⟨y, hy⟩ := room ht.ask hc hl
  obtain ⟨c1, c2⟩ := can_is (least_can hy)
  have hp := (List.getElem?_eq_some_iff.1 hy).1
  have hg := ht.gen _ y hy
  have hp2 : m.ask.least < m.cells.length := hp
  unfold M.alloc M.take
  rw [hy]
  have eh : hand (m.ask.least : Int) y.gen = y.gen * 65536 + (m.ask.least : Int) + 1 := by unfold hand; rw [if_pos (by omega)]
  have hi : isH (hand (m.ask.least : Int) y.gen) = true := by rw [eh]; exact decide_eq_true (by omega)
  have hn : m.look (hand (m.ask.least : Int) y.gen) = none := by
    refine look_none ?_
    rintro ⟨q, z, h1, h2, h3, h4, h5⟩
    rw [eh] at h2
    have : q = m.ask.least := by omega
    subst this
    rw [show m.cells[m.ask.least]? = some y from hy] at h3
    cases h3
    rw [c1] at h4; cases h4
  refine ⟨_, _, rfl, hn, fun k => ?_, ?_, rfl, by show (m.cells.set _ _).length = _; rw [List.length_set], rfl, by rw [eh]; omega⟩
  · by_cases e : k = hand (m.ask.least : Int) y.gen
    · rw [if_pos e, e]
      exact look_of (m := ⟨m.cells.set m.ask.least { y with held := x }, _, _, _⟩) hi (by rw [eh]; omega) (List.getElem?_set_self hp2) hx (by rw [eh]; simp only; omega)
    · rw [if_neg e]
      cases hk : m.look k with
      | none =>
        refine look_none ?_
        rintro ⟨q, z, h1, h2, h3, h4, h5⟩
        by_cases e2 : m.ask.least = q
        · subst e2
          replace h3 : (m.cells.set m.ask.least { y with held := x })[m.ask.least]? = some z := h3
          rw [List.getElem?_set_self hp2] at h3
          cases h3
          exact e (by rw [eh]; simp only at h5; omega)
        · replace h3 : (m.cells.set m.ask.least { y with held := x })[q]? = some z := h3
          rw [List.getElem?_set_ne e2] at h3
          rw [look_of h1 h2 h3 h4 h5] at hk
          cases hk
      | some v =>
        obtain ⟨q, z, _, hz, h3, h4, h5, h6, h7⟩ := look_some hk
        have e2 : m.ask.least ≠ q := fun e2 => by
          subst e2
          rw [show m.cells[m.ask.least]? = some y from hy] at h3
          cases h3
          rw [c1] at h4; cases h4
        rw [← hz]
        exact look_of (m := ⟨m.cells.set m.ask.least { y with held := x }, _, _, _⟩) h7 h5 (by simp only [List.getElem?_set_ne e2]; exact h3) h4 h6
  · exact ht.set hy (y := { y with held := x }) hg (Int.le_refl _) _ _ _ (by simp only [c1, hx]; simp [M.ask])
theorem free_yes {h : Int} {x : Held} (ht : Tidy g m) (hl : m.look h = some x) : ∃ m', m.free h = (m', 0) ∧ (∀ k, m'.look k = if k = h then none else m.look k) ∧ Tidy (g + 1) m' ∧ m'.live = m.live - 1 ∧ m'.cells.length = m.cells.length ∧ m'.count = m.count + 1 := by
  obtain ⟨p, y, ha, hy, hc, hb, -⟩ := look_some hl
  have hp := (List.getElem?_eq_some_iff.1 hc).1
  have hg := ht.gen p y hc
  unfold M.free
  rw [ha]
  refine ⟨_, rfl, fun k => ?_, ?_, rfl, by show (m.cells.set _ _).length = _; rw [List.length_set], rfl⟩
  · show M.look ⟨m.cells.set p y.freed, _, _, _⟩ k = _
    split
    · rename_i e
      subst e
      refine look_none ?_
      rintro ⟨q, z, h1, h2, h3, h4, h5⟩
      obtain ⟨-, e2, -⟩ := (look_at ha k).2 rfl
      have : p = q := by omega
      subst this
      rw [show (m.cells.set p y.freed)[p]? = _ from List.getElem?_set_self hp] at h3
      cases h3
      cases h4
    · rename_i e
      cases hk : m.look k with
      | none =>
        refine look_none ?_
        rintro ⟨q, z, h1, h2, h3, h4, h5⟩
        by_cases e2 : p = q
        · subst e2
          rw [show (m.cells.set p y.freed)[p]? = _ from List.getElem?_set_self hp] at h3
          cases h3
          cases h4
        · rw [show (m.cells.set p y.freed)[q]? = _ from List.getElem?_set_ne e2] at h3
          rw [look_of h1 h2 h3 h4 h5] at hk
          cases hk
      | some v =>
        obtain ⟨q, z, _, hz, h3, h4, h5, h6, h7⟩ := look_some hk
        have e2 : p ≠ q := fun e2 => by
          subst e2
          rw [hc] at h3
          cases h3
          exact e ((look_at ha k).1 ⟨h7, h5, h6⟩)
        rw [← hz]
        exact look_of (m := ⟨m.cells.set p y.freed, _, _, _⟩) h7 h5 (by simp only [List.getElem?_set_ne e2]; exact h3) h4 h6
  · exact ht.set hc (y := y.freed) (by simp only [Cl.freed]; omega) (by omega) _ _ _ (by simp only [hb, M.ask]; simp [Cl.freed, Held.busy])
end
theorem new_tidy (n : Nat) : Tidy 0 (M.new n) := by
  refine ⟨fun i x hx => ?_, ?_⟩
  · simp only [M.new, List.getElem?_replicate] at hx
    split at hx
    · cases hx; simp
    · cases hx
  · simp [M.new, List.countP_replicate, Held.busy]
theorem store_yes {m : M} {h o n : Int} (hl : m.look h = some (.word o)) : ∃ m', m.store h n = (m', 0) ∧ (∀ k, m'.look k = if k = h then some (.word n) else m.look k) ∧ (∀ g, Tidy g m → Tidy g m') ∧ m'.live = m.live ∧ m'.cells.length = m.cells.length ∧ m'.count = m.count + 1 := by
  obtain ⟨p, y, ha, hy, hc, hb, -⟩ := look_some hl
  unfold M.store
  rw [ha]
  simp only [hy]
  refine ⟨_, rfl, fun k => ?_, fun g ht => ?_, rfl, by show (m.cells.set _ _).length = _; rw [List.length_set], rfl⟩
  · show M.look ⟨m.cells.set p { y with held := .word n }, _, _, _⟩ k = _
    rw [look_put ha hc (y := { y with held := .word n }) rfl rfl]
  · have hg := ht.gen p y hc
    exact ht.set hc (y := { y with held := .word n }) hg (Int.le_refl _) _ _ _ (by simp only [hb]; rfl)
end Go.Proofs.YtibimnibmengpaaDoor
