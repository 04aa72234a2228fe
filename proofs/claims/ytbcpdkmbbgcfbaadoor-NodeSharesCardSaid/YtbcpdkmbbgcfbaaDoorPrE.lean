/- Programs that ask memory, as mathematics; what memory and ports are, their rows' places set aside; what a call by a port comes to. No condition. -/
import Derived.Test.YtbcpdkmbbgcfbaaDoorStG
import Derived.Deep.Upon
import Derived.Deep.MidRow
namespace Go.Proofs.YtbcpdkmbbgcfbaaDoor
open Go.RowKit Go.Op
set_option maxRecDepth 100000

/-- A program that asks memory. -/
inductive Pr (α : Type) where
  | ret (a : α)
  | ask (q : Qn) (k : An → Pr α)
def Pr.bind {α β : Type} : Pr α → (α → Pr β) → Pr β
  | .ret a, f => f a
  | .ask q k, f => .ask q fun a => (k a).bind f
def Pr.run {α : Type} : Pr α → Pt → M → Option α × Pt × M
  | .ret a, s, m => (some a, s, m)
  | .ask q k, s, m => match s.ask q m with
    | (some a, s', m') => (k a).run s' m'
    | (none, s', m') => (none, s', m')
def Pr.one (q : Qn) : Pr An := .ask q .ret
theorem Pr.run_ask {α : Type} (q : Qn) (k : An → Pr α) (s : Pt) (m : M) : (Pr.ask q k).run s m = match s.ask q m with
    | (some a, s', m') => (k a).run s' m'
    | (none, s', m') => (none, s', m') := by simp only [Pr.run]
theorem Pr.one_run (q : Qn) (s : Pt) (m : M) : (Pr.one q).run s m = s.ask q m := by
  unfold Pr.one
  rw [Pr.run_ask]
  rcases s.ask q m with ⟨_ | a, s', m'⟩
  · rfl
  · simp only [Pr.run]
theorem Pr.run_bind {α β : Type} : ∀ (p : Pr α) (f : α → Pr β) (s : Pt) (m : M), (p.bind f).run s m = match p.run s m with
    | (some a, s', m') => (f a).run s' m'
    | (none, s', m') => (none, s', m')
  | .ret a, f, s, m => by simp only [Pr.bind, Pr.run]
  | .ask q k, f, s, m => by
    simp only [Pr.bind]
    rw [Pr.run_ask, Pr.run_ask]
    rcases s.ask q m with ⟨_ | a, s', m'⟩
    · rfl
    · exact Pr.run_bind (k a) f s' m'
theorem Pr.bind_some {α β : Type} {p : Pr α} {f : α → Pr β} {s s' : Pt} {m m' : M} {a : α} (h : p.run s m = (some a, s', m')) : (p.bind f).run s m = (f a).run s' m' := by
  rw [Pr.run_bind, h]
theorem Pr.bind_none {α β : Type} {p : Pr α} {f : α → Pr β} {s s' : Pt} {m m' : M} (h : p.run s m = (none, s', m')) : (p.bind f).run s m = (none, s', m') := by
  rw [Pr.run_bind, h]

/-- Rows' places, set aside. -/
def Held.e : Held → Held
  | .blk d _ => .blk d .nil
  | x => x
def Cl.e (x : Cl) : Cl := { x with held := x.held.e }
def M.e (m : M) : M := { m with cells := m.cells.map Cl.e }
def An.e (a : An) : An := { a with held := a.held.e }
def Pt.e (s : Pt) : Pt := { s with told := s.told.map An.e }
def Qn.e : Qn → Qn
  | .alloc x => .alloc x.e
  | q => q
theorem Held.e_busy (x : Held) : x.e.busy = x.busy := by cases x <;> rfl
theorem Cl.e_can (x : Cl) : x.e.can = x.can := by
  unfold Cl.can Cl.e
  simp only [Held.e_busy]
theorem M.e_least (m : M) : m.e.least = m.least := by
  unfold M.least M.flags M.e
  simp only [List.map_map]
  have : (Cl.can ∘ Cl.e) = Cl.can := funext Cl.e_can
  rw [this]
theorem M.e_cells (m : M) (i : Nat) : m.e.cells[i]? = (m.cells[i]?).map Cl.e := List.getElem?_map
theorem M.e_seek (m : M) (h : Int) : m.e.seek h = m.seek h := by
  unfold M.seek
  rw [M.e_cells]
  cases m.cells[(h % 65536 - 1).toNat]? with
  | none => rfl
  | some x =>
    show (if _ then (if x.e.held.busy = true ∧ _ then _ else _) else _) = _
    rw [show x.e.held.busy = x.held.busy from Held.e_busy _]
    rfl
theorem M.e_at (m : M) (h : Int) : m.e.at h = (m.at h).map fun px => (px.1, px.2.e) := by
  unfold M.at
  rw [M.e_seek]
  cases m.seek h with
  | none => rfl
  | some p =>
    simp only [Option.bind_some]
    rw [M.e_cells]
    cases m.cells[p]? <;> rfl
theorem M.e_set (l : List Cl) (i : Nat) (x : Cl) : (l.set i x).map Cl.e = (l.map Cl.e).set i x.e := List.map_set
theorem M.e_ask (m : M) : m.ask.e = m.e.ask := rfl
theorem M.e_miss (m : M) : m.miss.e = m.e.miss := rfl
theorem M.e_put (m : M) (p : Nat) (x : Cl) : (m.put p x).e = m.e.put p x.e := by
  unfold M.put M.e
  simp only [M.e_set]
theorem M.e_drop (m : M) (p : Nat) (x : Cl) : (m.drop p x).e = m.e.drop p x.e := by
  unfold M.drop M.e
  simp only [M.e_set]
  rfl
theorem M.e_alloc (m : M) (x : Held) : m.e.alloc x.e = ((m.alloc x).1.e, (m.alloc x).2) := by
  unfold M.alloc M.take
  rw [← M.e_ask, M.e_least, M.e_cells]
  cases m.ask.cells[m.ask.least]? with
  | none => rfl
  | some y =>
    simp only [Option.map_some]
    simp only [M.e, M.ask, M.e_set, Cl.e]
theorem M.e_load (m : M) (h : Int) : m.e.load h = ((m.load h).1.e, (m.load h).2.1.e, (m.load h).2.2) := by
  unfold M.load
  rw [M.e_at]
  cases m.at h with
  | none => rfl
  | some px =>
    obtain ⟨p, x⟩ := px
    obtain ⟨hd, g, r, st⟩ := x
    cases hd <;> rfl
theorem M.e_word (m : M) (h : Int) : m.e.word h = ((m.word h).1.e, (m.word h).2) := by
  unfold M.word
  rw [M.e_at]
  cases m.at h with
  | none => rfl
  | some px =>
    obtain ⟨p, x⟩ := px
    obtain ⟨hd, g, r, st⟩ := x
    cases hd <;> rfl
theorem M.e_store (m : M) (h n : Int) : m.e.store h n = ((m.store h n).1.e, (m.store h n).2) := by
  unfold M.store
  rw [M.e_at]
  cases m.at h with
  | none => rfl
  | some px =>
    obtain ⟨p, x⟩ := px
    obtain ⟨hd, g, r, st⟩ := x
    cases hd with
    | word k =>
      simp only [Option.map_some, Cl.e, Held.e]
      rw [M.e_put]; rfl
    | _ => rfl
theorem M.e_swap (m : M) (h o n : Int) : m.e.swap h o n = ((m.swap h o n).1.e, (m.swap h o n).2) := by
  unfold M.swap
  rw [M.e_at]
  cases m.at h with
  | none => rfl
  | some px =>
    obtain ⟨p, x⟩ := px
    obtain ⟨hd, g, r, st⟩ := x
    cases hd with
    | word k =>
      simp only [Option.map_some, Cl.e, Held.e]
      split
      · rw [M.e_put]; rfl
      · rfl
    | _ => rfl
theorem M.e_free (m : M) (h : Int) : m.e.free h = ((m.free h).1.e, (m.free h).2) := by
  unfold M.free
  rw [M.e_at]
  cases m.at h with
  | none => rfl
  | some px =>
    simp only [Option.map_some]
    rw [M.e_drop]; rfl
theorem M.e_retire (m : M) (h s : Int) : m.e.retire h s = ((m.retire h s).1.e, (m.retire h s).2) := by
  unfold M.retire
  rw [M.e_at]
  cases m.at h with
  | none => rfl
  | some px =>
    simp only [Option.map_some]
    rw [M.e_put]; rfl
theorem M.e_reap (m : M) (p s : Int) : m.e.reap p s = ((m.reap p s).1.e, (m.reap p s).2) := by
  unfold M.reap
  rw [show m.e.cells.length = m.cells.length from List.length_map ..]
  split
  · rfl
  · rw [M.e_cells]
    cases m.cells[p.toNat]? with
    | none => rfl
    | some x =>
      simp only [Option.map_some]
      rw [show x.e.ret = x.ret from rfl, show x.e.stamp = x.stamp from rfl]
      split
      · rw [M.e_drop]; rfl
      · rfl
theorem Qn.e_on (q : Qn) (m : M) : q.e.on m.e = ((q.on m).1.e, (q.on m).2.e) := by
  cases q with
  | alloc x => show (((m.e.alloc x.e).1, (⟨_, (m.e.alloc x.e).2.1, _, (m.e.alloc x.e).2.2⟩ : An)) : M × An) = _; rw [M.e_alloc]; rfl
  | load h => show (((m.e.load h).1, (⟨(m.e.load h).2.1, _, _, (m.e.load h).2.2⟩ : An)) : M × An) = _; rw [M.e_load]; rfl
  | word h => show (((m.e.word h).1, (⟨_, (m.e.word h).2.1, _, (m.e.word h).2.2⟩ : An)) : M × An) = _; rw [M.e_word]; rfl
  | store h n => show (((m.e.store h n).1, (⟨_, _, _, (m.e.store h n).2⟩ : An)) : M × An) = _; rw [M.e_store]; rfl
  | swap h o n => show (((m.e.swap h o n).1, (⟨_, _, (m.e.swap h o n).2.1, (m.e.swap h o n).2.2⟩ : An)) : M × An) = _; rw [M.e_swap]; rfl
  | free h => show (((m.e.free h).1, (⟨_, _, _, (m.e.free h).2⟩ : An)) : M × An) = _; rw [M.e_free]; rfl
  | retire h s => show (((m.e.retire h s).1, (⟨_, _, _, (m.e.retire h s).2⟩ : An)) : M × An) = _; rw [M.e_retire]; rfl
  | reap p s => show (((m.e.reap p s).1, (⟨_, _, (m.e.reap p s).2.1, (m.e.reap p s).2.2⟩ : An)) : M × An) = _; rw [M.e_reap]; rfl
theorem Pt.e_ask (s : Pt) (q : Qn) (m : M) : s.e.ask q.e m.e = ((s.ask q m).1.map An.e, (s.ask q m).2.1.e, (s.ask q m).2.2.e) := by
  have hn : s.e.told[s.e.place]? = (s.told[s.place]?).map An.e := List.getElem?_map
  cases hx : s.told[s.place]? with
  | some a =>
    rw [hx] at hn
    rw [Pt.ask_told hx, Pt.ask_told hn]
    rfl
  | none =>
    rw [hx] at hn
    cases hs : s.spent with
    | true => rw [Pt.ask_halt hx hs, Pt.ask_halt hn hs]; rfl
    | false =>
      cases hk : s.keeps with
      | true =>
        rw [Pt.ask_keep hx hs hk, Pt.ask_keep hn hs hk, Qn.e_on]
        simp only [Pt.e, List.map_append, List.map_cons, List.map_nil, Option.map_some]
      | false => rw [Pt.ask_do hx hs hk, Pt.ask_do hn hs hk, Qn.e_on]; rfl

/-- A slice whose row stands among rows that nobody changes. -/
structure Sl.In (G : List (Nat × List Value)) (s : Sl) (l : List Value) : Prop where
  n : s.n = l.length
  cap : s.n ≤ s.cap
  few : l.length ≤ 1000000
  row : l = [] ∨ ∃ g o r, s.a = some ⟨g, o, none⟩ ∧ (g, r) ∈ G ∧ ∀ i x, l[i]? = some x → r[o + i]? = some x
theorem Sl.In.more {G G' : List (Nat × List Value)} {s : Sl} {l : List Value} (h : s.In G l) (hg : ∀ x, x ∈ G → x ∈ G') : s.In G' l :=
  ⟨h.n, h.cap, h.few, h.row.imp id fun ⟨g, o, r, e, hm, hr⟩ => ⟨g, o, r, e, hg _ hm, hr⟩⟩
theorem Sl.In.nil {G : List (Nat × List Value)} : Sl.nil.In G [] := ⟨rfl, Nat.le_refl _, by decide, .inl rfl⟩
def ints (l : List Int) : List Value := l.map (.int .i64)
/-- A block whose rows stand among rows that nobody changes. -/
def Rv.In (G : List (Nat × List Value)) (r : Rv) (p : Pl) : Prop := p.s0.In G (r.keys.map .string) ∧ p.s1.In G (r.vals.map .string) ∧ p.s2.In G (r.gone.map .bool) ∧ p.s3.In G (ints r.tab)
def Dat.In (G : List (Nat × List Value)) : Dat → Pl → Prop
  | .age r _, p => r.In G p
  | .node _ _ nx, p => p.s0.In G (ints nx)
theorem Dat.In.more {G G' : List (Nat × List Value)} {d : Dat} {p : Pl} (h : d.In G p) (hg : ∀ x, x ∈ G → x ∈ G') : d.In G' p := by
  cases d with
  | age r pv => exact ⟨Sl.In.more h.1 hg, Sl.In.more h.2.1 hg, Sl.In.more h.2.2.1 hg, Sl.In.more h.2.2.2 hg⟩
  | node low head nx => exact Sl.In.more h hg
def Held.In (G : List (Nat × List Value)) (x : Held) : Prop := ∀ d p, x = .blk d p → d.In G p
theorem Held.In.more {G G' : List (Nat × List Value)} {x : Held} (h : x.In G) (hg : ∀ x, x ∈ G → x ∈ G') : x.In G' := fun d p e => (h d p e).more hg
def M.In (G : List (Nat × List Value)) (m : M) : Prop := ∀ (i : Nat) (x : Cl), m.cells[i]? = some x → x.held.In G
theorem M.In.more {G G' : List (Nat × List Value)} {m : M} (h : m.In G) (hg : ∀ x, x ∈ G → x ∈ G') : m.In G' := fun i x hx => (h i x hx).more hg
def Pt.In (G : List (Nat × List Value)) (s : Pt) : Prop := ∀ (i : Nat) (a : An), s.told[i]? = some a → a.held.In G
theorem Pt.In.more {G G' : List (Nat × List Value)} {s : Pt} (h : s.In G) (hg : ∀ x, x ∈ G → x ∈ G') : s.In G' := fun i x hx => (h i x hx).more hg
def Qn.In (G : List (Nat × List Value)) : Qn → Prop
  | .alloc x => x.In G
  | _ => True
theorem no_in {G : List (Nat × List Value)} : Held.no.In G := fun _ _ e => (by cases e)
theorem word_in {G : List (Nat × List Value)} {n : Int} : (Held.word n).In G := fun _ _ e => (by cases e)
section
variable {G : List (Nat × List Value)} {m : M}
theorem in_set {l : List Cl} {p : Nat} {y : Cl} (hl : ∀ (i : Nat) (x : Cl), l[i]? = some x → x.held.In G) (hy : y.held.In G) : ∀ (i : Nat) (x : Cl), (l.set p y)[i]? = some x → x.held.In G := by
  intro i x hx
  rw [List.getElem?_set] at hx
  split at hx
  · split at hx
    · cases hx; exact hy
    · cases hx
  · exact hl i x hx
theorem M.In.at (h : m.In G) {a : Int} {p : Nat} {x : Cl} (ha : m.at a = some (p, x)) : x.held.In G := h p x (at_is ha).2.1
theorem M.In.on (h : m.In G) {q : Qn} (hq : q.In G) : (q.on m).1.In G ∧ (q.on m).2.held.In G := by
  cases q with
  | alloc x =>
    refine ⟨?_, no_in⟩
    show ((m.alloc x).1).In G
    unfold M.alloc M.take
    split
    · exact in_set (l := m.ask.cells) h hq
    · exact h
  | load a =>
    show ((m.load a).1).In G ∧ ((m.load a).2.1).In G
    unfold M.load
    split
    · exact ⟨h, no_in⟩
    · rename_i p x ha
      have := h.at ha
      split
      · rename_i d pl hd; rw [hd] at this; exact ⟨h, this⟩
      · exact ⟨h, no_in⟩
  | word a =>
    refine ⟨?_, no_in⟩
    show ((m.word a).1).In G
    unfold M.word
    split
    · exact h
    · split
      all_goals exact h
  | store a n =>
    refine ⟨?_, no_in⟩
    show ((m.store a n).1).In G
    unfold M.store
    split
    · exact h
    · split
      · exact in_set (l := m.ask.cells) h word_in
      · exact h
  | swap a o n =>
    refine ⟨?_, no_in⟩
    show ((m.swap a o n).1).In G
    unfold M.swap
    split
    · exact h
    · split
      · split
        · exact in_set (l := m.ask.cells) h word_in
        · exact h
      · exact h
  | free a =>
    refine ⟨?_, no_in⟩
    show ((m.free a).1).In G
    unfold M.free
    split
    · exact h
    · exact in_set (l := m.ask.cells) h no_in
  | retire a s =>
    refine ⟨?_, no_in⟩
    show ((m.retire a s).1).In G
    unfold M.retire
    split
    · exact h
    · rename_i p x ha
      exact in_set (l := m.ask.cells) h (show x.held.In G from h.at ha)
  | reap p s =>
    refine ⟨?_, no_in⟩
    show ((m.reap p s).1).In G
    unfold M.reap
    split
    · exact h
    · split
      · split
        · exact in_set (l := m.ask.cells) h no_in
        · exact h
      · exact h
theorem Pt.In.ask {s : Pt} (h : s.In G) (hm : m.In G) {q : Qn} (hq : q.In G) : (∀ a, (s.ask q m).1 = some a → a.held.In G) ∧ (s.ask q m).2.1.In G ∧ (s.ask q m).2.2.In G := by
  cases hx : s.told[s.place]? with
  | some a => rw [Pt.ask_told hx]; exact ⟨fun b e => by cases e; exact h _ _ hx, h, hm⟩
  | none =>
    cases hs : s.spent with
    | true => rw [Pt.ask_halt hx hs]; exact ⟨fun b e => (by cases e), h, hm⟩
    | false =>
      obtain ⟨h1, h2⟩ := hm.on hq
      cases hk : s.keeps with
      | true =>
        rw [Pt.ask_keep hx hs hk]
        refine ⟨fun b e => by cases e; exact h2, fun i a ha => ?_, h1⟩
        simp only [List.getElem?_append] at ha
        split at ha
        · exact h i a ha
        · cases hj : i - s.told.length with
          | zero => rw [hj] at ha; simp at ha; subst ha; exact h2
          | succ n => rw [hj] at ha; simp at ha
      | false => rw [Pt.ask_do hx hs hk]; exact ⟨fun b e => by cases e; exact h2, h, h1⟩
end
theorem on_count (q : Qn) (m : M) : (q.on m).1.count = m.count + 1 := by
  cases q with
  | alloc x => show ((m.alloc x).1).count = _; unfold M.alloc M.take; split <;> rfl
  | load a =>
    show ((m.load a).1).count = _; unfold M.load
    split
    · rfl
    · split <;> rfl
  | word a =>
    show ((m.word a).1).count = _; unfold M.word
    split
    · rfl
    · split <;> rfl
  | store a n =>
    show ((m.store a n).1).count = _; unfold M.store
    split
    · rfl
    · split <;> rfl
  | swap a o n =>
    show ((m.swap a o n).1).count = _; unfold M.swap
    split
    · rfl
    · split
      · split <;> rfl
      · rfl
  | free a => show ((m.free a).1).count = _; unfold M.free; split <;> rfl
  | retire a s => show ((m.retire a s).1).count = _; unfold M.retire; split <;> rfl
  | reap p s =>
    show ((m.reap p s).1).count = _; unfold M.reap
    split
    · rfl
    · split
      · split <;> rfl
      · rfl
theorem on_ok {m : M} (h : m.Ok m.count) (q : Qn) : (q.on m).1.Ok (q.on m).1.count := by
  rw [on_count]
  cases q with
  | alloc x => exact h.alloc
  | load a => exact h.load a
  | word a => exact h.word a
  | store a n => exact h.store a n
  | swap a o n => exact h.swap a o n
  | free a => exact h.free a
  | retire a s => exact h.retire a s
  | reap p s => exact h.reap p s
/-- What an ask leaves of a port and of memory's count. -/
structure Fit (s : Pt) (m : M) : Prop where
  ok : m.Ok m.count
  le : s.place ≤ s.told.length
  len : (s.told.length : Int) ≤ m.count
theorem Fit.ask {s : Pt} {m : M} (h : Fit s m) (q : Qn) : Fit (s.ask q m).2.1 (s.ask q m).2.2 := by
  cases hx : s.told[s.place]? with
  | some a =>
    rw [Pt.ask_told hx]
    have := (List.getElem?_eq_some_iff.1 hx).1
    exact ⟨h.ok, by simp only; omega, h.len⟩
  | none =>
    cases hs : s.spent with
    | true => rw [Pt.ask_halt hx hs]; exact ⟨h.ok, h.le, h.len⟩
    | false =>
      have h1 := on_ok h.ok q
      have h2 := on_count q m
      have h3 := h.le
      have h4 := h.len
      cases hk : s.keeps with
      | true =>
        rw [Pt.ask_keep hx hs hk]
        exact ⟨h1, by simp; omega, by simp; omega⟩
      | false => rw [Pt.ask_do hx hs hk]; exact ⟨h1, h.le, by simp only; omega⟩
theorem ask_count (s : Pt) (q : Qn) (m : M) : m.count ≤ (s.ask q m).2.2.count ∧ (s.ask q m).2.2.count ≤ m.count + 1 ∧ (s.ask q m).2.1.ext = s.ext := by
  cases hx : s.told[s.place]? with
  | some a => rw [Pt.ask_told hx]; exact ⟨Int.le_refl _, by simp only; omega, rfl⟩
  | none =>
    cases hs : s.spent with
    | true => rw [Pt.ask_halt hx hs]; exact ⟨Int.le_refl _, by simp only; omega, rfl⟩
    | false =>
      have h2 := on_count q m
      cases hk : s.keeps with
      | true => rw [Pt.ask_keep hx hs hk]; exact ⟨by simp only; omega, by simp only; omega, rfl⟩
      | false => rw [Pt.ask_do hx hs hk]; exact ⟨by simp only; omega, by simp only; omega, rfl⟩

/-- A port and its memory, rows' places set aside. -/
def SysE (w0 : World) (b c r pb po : Nat) (t : Value) (G : List (Nat × List Value)) (w : World) (m : M) (s : Pt) : Prop :=
  ∃ m0 s0, Sys w0 b c r m0.count G pb po t w m0 s0 ∧ m0.In G ∧ s0.In G ∧ Fit s0 m0 ∧ m0.e = m ∧ s0.e = s
/-- What stands behind some asks. -/
structure Aft (w0 : World) (b c r pb po : Nat) (t : Value) (G : List (Nat × List Value)) (w : World) (t' : Value) (G' : List (Nat × List Value)) (w' : World) (m' : M) (s' : Pt) : Prop where
  sys : SysE w0 b c r pb po t' G' w' m' s'
  but : But5 b c r pb t w w'
  row : Row2 w t t'
  gro : Grow w G G'
/-- How a call by a port ends that does what a program says. -/
def Ev {α : Type} (w0 : World) (b c r pb po : Nat) (t : Value) (G : List (Nat × List Value)) (w : World) (R : List (Nat × List Value) → α → Value → Prop) (o : Option α × Pt × M) (e : Ending) (w' : World) : Prop :=
  ∃ t' G', (match o.1 with
    | some a => ∃ v, e = .returned v ∧ R G' a v
    | none => e = Halt pb po) ∧ Aft w0 b c r pb po t G w t' G' w' o.2.2 o.2.1
section
variable {w0 : World} {b c r pb po : Nat} {t t1 t2 : Value} {G G1 G2 : List (Nat × List Value)} {w w1 w2 : World} {m m1 m2 : M} {s s1 s2 : Pt}
theorem SysE.later (h : SysE w0 b c r pb po t G w m s) (hb : Below w.heap.size w w1) : SysE w0 b c r pb po t G w1 m s := by
  obtain ⟨m0, s0, h1, h2⟩ := h
  exact ⟨m0, s0, h1.later hb, h2⟩
theorem Aft.refl (h : SysE w0 b c r pb po t G w m s) : Aft w0 b c r pb po t G w t G w m s := ⟨h, But5.refl _ _ _ _ _ _, Row2.refl _ _, Grow.refl _ _⟩
theorem Aft.trans (h : Aft w0 b c r pb po t G w t1 G1 w1 m1 s1) (k : Aft w0 b c r pb po t1 G1 w1 t2 G2 w2 m2 s2) : Aft w0 b c r pb po t G w t2 G2 w2 m2 s2 :=
  ⟨k.sys, h.but.next h.row k.but, h.row.next h.but.size k.row, h.gro.trans h.but.size k.gro⟩
theorem Aft.later (h : Aft w0 b c r pb po t G w t1 G1 w1 m1 s1) (hb : Below w1.heap.size w1 w2) : Aft w0 b c r pb po t G w t1 G1 w2 m1 s1 :=
  ⟨h.sys.later hb, h.but.next h.row (But5.of hb), h.row, h.gro⟩
theorem Aft.back (h : Aft w0 b c r pb po t G w1 t1 G1 w2 m1 s1) (hb : Below w.heap.size w w1) : Aft w0 b c r pb po t G w t1 G1 w2 m1 s1 :=
  ⟨h.sys, (But5.of hb).trans h.but, h.row.from hb.size, h.gro.from hb.size⟩
theorem Ev.cases {α : Type} {R : List (Nat × List Value) → α → Value → Prop} {o : Option α × Pt × M} {e : Ending} (h : Ev w0 b c r pb po t G w R o e w1) :
    (∃ t' G' s' m', o = (none, s', m') ∧ e = Halt pb po ∧ Aft w0 b c r pb po t G w t' G' w1 m' s') ∨ (∃ t' G' s' m' a v, o = (some a, s', m') ∧ e = .returned v ∧ R G' a v ∧ Aft w0 b c r pb po t G w t' G' w1 m' s') := by
  obtain ⟨oa, s', m'⟩ := o
  obtain ⟨t', G', h1, h2⟩ := h
  cases oa with
  | none => exact .inl ⟨t', G', s', m', rfl, h1, h2⟩
  | some a =>
    obtain ⟨v, h3, h4⟩ := h1
    exact .inr ⟨t', G', s', m', a, v, rfl, h3, h4, h2⟩
theorem Ev.ret {α : Type} {R : List (Nat × List Value) → α → Value → Prop} {o : Option α × Pt × M} {a : α} {v : Value} (ho : o = (some a, s1, m1)) (hR : R G1 a v) (h : Aft w0 b c r pb po t G w t1 G1 w1 m1 s1) : Ev w0 b c r pb po t G w R o (.returned v) w1 := by
  subst ho; exact ⟨t1, G1, ⟨v, rfl, hR⟩, h⟩
theorem Ev.die {α : Type} {R : List (Nat × List Value) → α → Value → Prop} {o : Option α × Pt × M} (ho : o = (none, s1, m1)) (h : Aft w0 b c r pb po t G w t1 G1 w1 m1 s1) : Ev w0 b c r pb po t G w R o (Halt pb po) w1 := by
  subst ho; exact ⟨t1, G1, rfl, h⟩
/-- A block of the caller's own beside port, memory and rows. -/
structure Loc (w0 : World) (b c r pb : Nat) (t : Value) (G : List (Nat × List Value)) (w : World) (z : Nat) : Prop where
  lt : z < w.heap.size
  ge : w0.heap.size ≤ z
  ne : z ≠ b ∧ z ≠ c ∧ z ≠ r ∧ z ≠ pb
  nt : t.ownBlock ≠ some z
  ng : ∀ x, x ∈ G → x.1 ≠ z
theorem SysE.fresh (h : SysE w0 b c r pb po t G w m s) (o : Obj) : Loc w0 b c r pb t G (w.alloc o) w.heap.size := by
  obtain ⟨m0, s0, h1, -⟩ := h
  have o := h1.has.at_.own
  have h2 := h1.pt.lt
  have h3 := o.lb
  have h4 := o.lc
  have h5 := o.lr
  exact ⟨by simp, h1.has.below.size, ⟨by omega, by omega, by omega, by omega⟩, fun e => by
    have := (World.ownsRow.lt h1.pt.own _ e).2
    omega, fun x hx e => by
    have := (h1.rows x.1 x.2 hx).1.lt
    omega⟩
theorem Loc.same {z : Nat} (h : Loc w0 b c r pb t G w z) (hs : w.heap.size ≤ w1.heap.size) : Loc w0 b c r pb t G w1 z := ⟨Nat.lt_of_lt_of_le h.lt hs, h.ge, h.ne, h.nt, h.ng⟩
theorem Loc.aft {z : Nat} (h : Loc w0 b c r pb t G w z) (ha : Aft w0 b c r pb po t G w t1 G1 w1 m1 s1) : Loc w0 b c r pb t1 G1 w1 z ∧ w1.heap[z]? = w.heap[z]? := by
  refine ⟨⟨Nat.lt_of_lt_of_le h.lt ha.but.size, h.ge, h.ne, fun e => ?_, fun x hx e => ?_⟩, ha.but.block z h.lt h.ne.1 h.ne.2.1 h.ne.2.2.1 h.ne.2.2.2 (fun e => h.nt e.symm)⟩
  · rcases ha.row z e with e2 | e2
    · exact h.nt e2
    · have := h.lt; omega
  · rcases ha.gro.2 x hx with e2 | e2
    · exact h.ng x e2 e
    · have := h.lt; omega
/-- A change of such a block. -/
theorem SysE.aside {z : Nat} (h : SysE w0 b c r pb po t G w m s) (hk : But z w w1) (hz : Loc w0 b c r pb t G w z) : SysE w0 b c r pb po t G w1 m s := by
  obtain ⟨m0, s0, h1, h2⟩ := h
  have o := h1.has.at_.own
  refine ⟨m0, s0, ⟨h1.has.same hk.size (h1.has.below.trans ⟨hk.os, hk.tape, hk.output, hk.size, fun k hk2 => hk.block k (Nat.lt_of_lt_of_le hk2 h1.has.below.size) (by have := hz.ge; omega)⟩) (hk.block b o.lb hz.ne.1.symm) (hk.block c o.lc hz.ne.2.1.symm) (hk.block r o.lr hz.ne.2.2.1.symm), h1.pt.same (hk.block pb h1.pt.lt hz.ne.2.2.2.symm) (fun k e => hk.block k (World.ownsRow.lt h1.pt.own k e).2 (fun e2 => hz.nt (e2 ▸ e))), h1.nb, h1.tb, h1.hp, fun g l hg => ?_⟩, h2⟩
  obtain ⟨q1, q2⟩ := h1.rows g l hg
  exact ⟨q1.same hk.size (hk.block g q1.lt (hz.ng _ hg)), q2⟩
theorem Aft.aside {z : Nat} (h : Aft w0 b c r pb po t G w t1 G1 w1 m1 s1) (hk : But z w1 w2) (hz : Loc w0 b c r pb t1 G1 w1 z) (hw : w.heap.size ≤ z) : Aft w0 b c r pb po t G w t1 G1 w2 m1 s1 :=
  ⟨h.sys.aside hk hz, ⟨hk.os.trans h.but.os, hk.tape.trans h.but.tape, hk.output.trans h.but.output, Nat.le_trans h.but.size hk.size, fun k hk2 e1 e2 e3 e4 e5 => (hk.block k (Nat.lt_of_lt_of_le hk2 h.but.size) (by omega)).trans (h.but.block k hk2 e1 e2 e3 e4 e5)⟩, h.row, h.gro⟩
end
end Go.Proofs.YtbcpdkmbbgcfbaaDoor
/- What a port's asks come to, rows' places set aside; slices.Clone of a row of swaps. Conditions: at most 900000 asks; at most 1000000 swaps. -/
namespace Go.Proofs.YtbcpdkmbbgcfbaaDoor
open Go.RowKit Go.Op
set_option maxRecDepth 100000

theorem Ev.mono {α : Type} {w0 : World} {b c r pb po : Nat} {t : Value} {G : List (Nat × List Value)} {w w1 : World} {R R' : List (Nat × List Value) → α → Value → Prop} {o : Option α × Pt × M} {e : Ending} (h : Ev w0 b c r pb po t G w R o e w1) (hR : ∀ G' a v, R G' a v → R' G' a v) : Ev w0 b c r pb po t G w R' o e w1 := by
  obtain ⟨oa, s', m'⟩ := o
  obtain ⟨t', G', h1, h2⟩ := h
  refine ⟨t', G', ?_, h2⟩
  cases oa with
  | none => exact h1
  | some a =>
    obtain ⟨v, h3, h4⟩ := h1
    exact ⟨v, h3, hR _ _ _ h4⟩
section
variable {w0 : World} {b c r pb po : Nat} {t : Value} {G : List (Nat × List Value)} {w : World} {m : M} {s : Pt}
theorem ev_ask {m0 : M} {s0 : Pt} {q : Qn} {e : Ending} {w1 : World} (hm : m0.In G) (hs : s0.In G) (hf : Fit s0 m0) (hq : q.In G) (h : Asked w0 b c r m0.count G pb po t w m0 s0 q e w1) :
    Ev w0 b c r pb po t G w (fun G' a v => ∃ a0 : An, a0.e = a ∧ a0.held.In G' ∧ v = q.ret a0) (s0.e.ask q.e m0.e) e w1 := by
  obtain ⟨t', hE, hS, hB, hR⟩ := h
  rw [Pt.e_ask]
  obtain ⟨i1, i2, i3⟩ := hs.ask hm hq
  have hF := hf.ask q
  have hS' := hS.okof hF.ok
  refine ⟨t', G, ?_, ⟨⟨_, _, hS', i3, i2, hF, rfl, rfl⟩, hB, hR, Grow.refl _ _⟩⟩
  cases ho : (s0.ask q m0).1 with
  | none => rw [ho] at hE; exact hE
  | some a => rw [ho] at hE; exact ⟨_, hE, a, rfl, i1 a ho, rfl⟩
theorem Fit.pok {m0 : M} {s0 : Pt} (h : Fit s0 m0) (hc : m0.count ≤ 900000) : s0.Ok := ⟨h.le, by have := h.len; omega⟩
theorem eword (h : SysE w0 b c r pb po t G w m s) (hc : m.count ≤ 900000) (k : Int) :
    Calls Tryd.prog 37 #[.pointer (some ⟨pb, po, none⟩), .int .i64 k] w fun e w' => Ev w0 b c r pb po t G w (fun _ a v => v = .tuple #[.int .i64 a.n, .int .i64 a.err]) (s.ask (.word k) m) e w' := by
  obtain ⟨m0, s0, hS, hm, hs, hf, rfl, rfl⟩ := h
  have hc : m0.count ≤ 900000 := hc
  refine (pword_any hS (by omega) (hf.pok hc) k).mono fun e w' h => ?_
  exact (ev_ask (q := .word k) hm hs hf trivial h).mono fun G' a v ⟨a0, e, _, hv⟩ => by rw [hv, ← e]; rfl
theorem eload (h : SysE w0 b c r pb po t G w m s) (hc : m.count ≤ 900000) (k : Int) :
    Calls Tryd.prog 66 #[.pointer (some ⟨pb, po, none⟩), .int .i64 k] w fun e w' => Ev w0 b c r pb po t G w (fun G' a v => ∃ x : Held, x.e = a.held ∧ x.In G' ∧ v = .tuple #[x.v, .int .i64 a.err]) (s.ask (.load k) m) e w' := by
  obtain ⟨m0, s0, hS, hm, hs, hf, rfl, rfl⟩ := h
  have hc : m0.count ≤ 900000 := hc
  refine (pload_any hS (by omega) (hf.pok hc) k).mono fun e w' h => ?_
  exact (ev_ask (q := .load k) hm hs hf trivial h).mono fun G' a v ⟨a0, e, hi, hv⟩ => ⟨a0.held, by rw [← e]; rfl, hi, by rw [hv, ← e]; rfl⟩
theorem eallocword (h : SysE w0 b c r pb po t G w m s) (hT : TabAt w0) (hc : m.count ≤ 900000) (k : Int) :
    Calls Tryd.prog 71 #[.pointer (some ⟨pb, po, none⟩), .int .i64 k] w fun e w' => Ev w0 b c r pb po t G w (fun _ a v => v = .tuple #[.int .i64 a.n, .int .i64 a.err]) (s.ask (.alloc (.word k)) m) e w' := by
  obtain ⟨m0, s0, hS, hm, hs, hf, rfl, rfl⟩ := h
  have hc : m0.count ≤ 900000 := hc
  refine (palloc_any hS hT (by omega) (hf.pok hc) k).mono fun e w' h => ?_
  exact (ev_ask (q := .alloc (.word k)) hm hs hf word_in h).mono fun G' a v ⟨a0, e, _, hv⟩ => by rw [hv, ← e]; rfl
theorem eallocblk (h : SysE w0 b c r pb po t G w m s) (hT : TabAt w0) (hc : m.count ≤ 900000) (d : Dat) (pl : Pl) (hd : d.In G pl) :
    Calls Tryd.prog 73 #[.pointer (some ⟨pb, po, none⟩), .iface d.ty (d.v pl)] w fun e w' => Ev w0 b c r pb po t G w (fun _ a v => v = .tuple #[.int .i64 a.n, .int .i64 a.err]) (s.ask (.alloc (.blk d .nil)) m) e w' := by
  obtain ⟨m0, s0, hS, hm, hs, hf, rfl, rfl⟩ := h
  have hc : m0.count ≤ 900000 := hc
  refine (pallocblk_any hS hT (by omega) (hf.pok hc) d pl).mono fun e w' h => ?_
  exact (ev_ask (q := .alloc (.blk d pl)) hm hs hf (fun _ _ e => by cases e; exact hd) h).mono fun G' a v ⟨a0, e, _, hv⟩ => by rw [hv, ← e]; rfl
theorem eswap (h : SysE w0 b c r pb po t G w m s) (hc : m.count ≤ 900000) (k o n : Int) :
    Calls Tryd.prog 68 #[.pointer (some ⟨pb, po, none⟩), .int .i64 k, .int .i64 o, .int .i64 n] w fun e w' => Ev w0 b c r pb po t G w (fun _ a v => v = .tuple #[.bool a.ok, .int .i64 a.err]) (s.ask (.swap k o n) m) e w' := by
  obtain ⟨m0, s0, hS, hm, hs, hf, rfl, rfl⟩ := h
  have hc : m0.count ≤ 900000 := hc
  refine (pswap_any hS (by omega) (hf.pok hc) k o n).mono fun e w' h => ?_
  exact (ev_ask (q := .swap k o n) hm hs hf trivial h).mono fun G' a v ⟨a0, e, _, hv⟩ => by rw [hv, ← e]; rfl
theorem efree (h : SysE w0 b c r pb po t G w m s) (hc : m.count ≤ 900000) (k : Int) :
    Calls Tryd.prog 75 #[.pointer (some ⟨pb, po, none⟩), .int .i64 k] w fun e w' => Ev w0 b c r pb po t G w (fun _ a v => v = .int .i64 a.err) (s.ask (.free k) m) e w' := by
  obtain ⟨m0, s0, hS, hm, hs, hf, rfl, rfl⟩ := h
  have hc : m0.count ≤ 900000 := hc
  refine (pfree_any hS (by omega) (hf.pok hc) k).mono fun e w' h => ?_
  exact (ev_ask (q := .free k) hm hs hf trivial h).mono fun G' a v ⟨a0, e, _, hv⟩ => by rw [hv, ← e]; rfl
end
end Go.Proofs.YtbcpdkmbbgcfbaaDoor
