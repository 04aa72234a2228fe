/- RegKeeps' machines, memory alone: what holds wherever one of them stands, whatever the others do. Conditions: at most 1000 asks. -/
import Derived.Test.YtgjkkbgdkdipgaaDoorKn
namespace Go.Proofs.YtgjkkbgdkdipgaaDoor
open Go.RowKit Go.Op
set_option maxRecDepth 100000

/-- Versions that a descriptor may tell. -/
def Held.Dv (x : Held) : Prop := ∀ d, x = .desc d → (0 ≤ d.ver ∧ d.ver ≤ 1000000) ∧ 0 ≤ d.bf ∧ d.bf ≤ 1000000
def M.Db (m : M) : Prop := ∀ (i : Nat) (x : Cl), m.cells[i]? = some x → x.held.Dv
theorem no_dv : Held.no.Dv := fun _ e => (by cases e)
theorem word_dv {n : Int} : (Held.word n).Dv := fun _ e => (by cases e)
def Qn.Dv : Qn → Prop
  | .alloc x => x.Dv
  | _ => True
section
variable {m : M}
theorem dv_set {l : List Cl} {p : Nat} {y : Cl} (hl : ∀ (i : Nat) (x : Cl), l[i]? = some x → x.held.Dv) (hy : y.held.Dv) : ∀ (i : Nat) (x : Cl), (l.set p y)[i]? = some x → x.held.Dv := by
  intro i x hx
  rw [List.getElem?_set] at hx
  split at hx
  · split at hx
    · cases hx; exact hy
    · cases hx
  · exact hl i x hx
theorem M.Db.at (h : m.Db) {a : Int} {p : Nat} {x : Cl} (ha : m.at a = some (p, x)) : x.held.Dv := h p x (at_is ha).2.1
theorem M.Db.on (h : m.Db) {q : Qn} (hq : q.Dv) : (q.on m).1.Db ∧ (q.on m).2.held.Dv := by
  cases q with
  | alloc x =>
    refine ⟨?_, no_dv⟩
    show ((m.alloc x).1).Db
    unfold M.alloc M.take
    split
    · exact dv_set (l := m.ask.cells) h hq
    · exact h
  | load a =>
    show ((m.load a).1).Db ∧ ((m.load a).2.1).Dv
    unfold M.load
    split
    · exact ⟨h, no_dv⟩
    · rename_i p x ha
      have := h.at ha
      split
      · rename_i d hd; rw [hd] at this; exact ⟨h, this⟩
      · rename_i d hd; rw [hd] at this; exact ⟨h, this⟩
      · exact ⟨h, no_dv⟩
  | word a =>
    refine ⟨?_, no_dv⟩
    show ((m.word a).1).Db
    unfold M.word
    split
    · exact h
    · split
      all_goals exact h
  | store a n =>
    refine ⟨?_, no_dv⟩
    show ((m.store a n).1).Db
    unfold M.store
    split
    · exact h
    · split
      · exact dv_set (l := m.ask.cells) h word_dv
      · exact h
  | swap a o n =>
    refine ⟨?_, no_dv⟩
    show ((m.swap a o n).1).Db
    unfold M.swap
    split
    · exact h
    · split
      · split
        · exact dv_set (l := m.ask.cells) h word_dv
        · exact h
      · exact h
  | free a =>
    refine ⟨?_, no_dv⟩
    show ((m.free a).1).Db
    unfold M.free
    split
    · exact h
    · exact dv_set (l := m.ask.cells) h no_dv
  | retire a s =>
    refine ⟨?_, no_dv⟩
    show ((m.retire a s).1).Db
    unfold M.retire
    split
    · exact h
    · rename_i p x ha
      exact dv_set (l := m.ask.cells) h (show x.held.Dv from h.at ha)
  | reap p s =>
    refine ⟨?_, no_dv⟩
    show ((m.reap p s).1).Db
    unfold M.reap
    split
    · exact h
    · split
      · split
        · exact dv_set (l := m.ask.cells) h no_dv
        · exact h
      · exact h
end
/-- A program whose descriptors tell such versions, and whose answer is as told. -/
def Pr.Dv {α : Type} : Pr α → (α → Prop) → Prop
  | .ret a, Q => Q a
  | .ask q k, Q => q.Dv ∧ ∀ a : An, a.held.Dv → (k a).Dv Q
theorem Pr.Dv.bind {α β : Type} {Q : α → Prop} {Q' : β → Prop} {f : α → Pr β} : ∀ {p : Pr α}, p.Dv Q → (∀ a, Q a → (f a).Dv Q') → (p.bind f).Dv Q'
  | .ret a, h, hf => hf a h
  | .ask _ _, h, hf => ⟨h.1, fun a ha => Pr.Dv.bind (h.2 a ha) hf⟩
theorem Pr.Dv.go {α : Type} {Q : α → Prop} : ∀ {p : Pr α} {m : M}, p.Dv Q → m.Db → (p.go m).2.Db
  | .ret _, _, _, hm => hm
  | .ask q k, m, h, hm => Pr.Dv.go (p := k (q.on m).2) (h.2 _ (hm.on h.1).2) (hm.on h.1).1
theorem d0_dv : (0 ≤ d0.ver ∧ d0.ver ≤ 1000000) ∧ 0 ≤ d0.bf ∧ d0.bf ≤ 1000000 := by decide
theorem heldP_dv (k : Int) : (heldP k).Dv fun x => ((0 ≤ x.1.ver ∧ x.1.ver ≤ 1000000) ∧ 0 ≤ x.1.bf ∧ x.1.bf ≤ 1000000) := by
  refine ⟨trivial, fun a ha => ?_⟩
  show _ ∧ _
  unfold heldR
  split
  · split
    · rename_i d hd; exact ha d hd
    · exact d0_dv
  · exact d0_dv
theorem lastP_dv (k : Int) : (lastP k).Dv fun x => ((0 ≤ x.d.ver ∧ x.d.ver ≤ 1000000) ∧ 0 ≤ x.d.bf ∧ x.d.bf ≤ 1000000) := by
  refine ⟨trivial, fun a _ => ?_⟩
  dsimp only
  split
  · refine (heldP_dv a.n).bind fun x hx => ?_
    split
    · refine ⟨trivial, fun y _ => ?_⟩
      dsimp only
      split
      · exact hx
      · exact d0_dv
    · exact d0_dv
  · exact d0_dv
theorem versionP_dv (k : Int) : (versionP k).Dv fun x => 0 ≤ x.1 ∧ x.1 ≤ 1000000 := (lastP_dv k).bind fun x hx => by
  show 0 ≤ (if x.is = true then x.d.ver else x.d.bf) ∧ (if x.is = true then x.d.ver else x.d.bf) ≤ 1000000
  split
  · exact hx.1
  · exact hx.2
/-- Another version: the same. -/
theorem pub_db {W V : Int} (hW : 0 ≤ W ∧ W ≤ 1000000) (hV : 0 ≤ V ∧ V ≤ 1000000) {top d g2 s2 : Int} {m m1 m2 m3 m4 m5 m6 : M} (e1 : ((lastP top).go m).2 = m1) (e2 : ((makeP W V []).go m1).2 = m2) (e3 : ((Qn.swap top d g2).on m2).1 = m3) (e4 : ((heldP g2).go m3).2 = m4) (e5 : ((helpL s2 []).go m4).2 = m5) (e6 : ((undoP d).go m5).2 = m6) (h : m.Db) : m6.Db := by
  have h1 : m1.Db := e1 ▸ (lastP_dv top).go h
  have h2 : m2.Db := e2 ▸ Pr.Dv.go (p := makeP W V []) (Q := fun _ => True) (by
    unfold makeP layP
    refine Pr.Dv.bind (Q := fun _ => True) ⟨word_dv, fun a _ => ?_⟩ fun _ _ => trivial
    dsimp only
    split
    · refine ⟨fun d hd => ?_, fun x _ => ?_⟩
      · cases hd; exact ⟨hW, hV⟩
      · dsimp only
        split
        · trivial
        · exact ⟨trivial, fun _ _ => trivial⟩
    · trivial) h1
  have h3 : m3.Db := e3 ▸ (h2.on (q := .swap top d g2) trivial).1
  have h4 : m4.Db := e4 ▸ (heldP_dv g2).go h3
  have h5 : m5.Db := e5 ▸ Pr.Dv.go (p := helpL s2 []) (Q := fun _ => True) ⟨trivial, fun _ _ => trivial⟩ h4
  exact e6 ▸ Pr.Dv.go (p := undoP d) (Q := fun _ => True) (by
    unfold undoP bothP
    refine (heldP_dv d).bind fun x _ => ?_
    split
    · refine ⟨trivial, fun a _ => ?_⟩
      dsimp only
      split
      · exact ⟨trivial, fun _ _ => trivial⟩
      · trivial
    · trivial) h5
/-- A register in memory, between two asks. -/
structure Rp (S P : List Int) (j : Nat) (m : M) (A : List Int) (B : List (Int × Int)) : Prop where
  rm : ∃ g V, RM g m 3 S P V A B ∧ g ≤ 10 + 3 * (j : Int) ∧ 0 ≤ V ∧ V ≤ 10 + (j : Int)
  db : m.Db
  cnt : m.count ≤ 1000 + 20 * (j : Int)
section
variable {S P : List Int} {j : Nat} {m : M} {A : List Int} {B : List (Int × Int)}
theorem Rp.next (h : Rp S P j m A B) : Rp S P (j + 1) m A B := by
  obtain ⟨g, V, h1, h2, h3, h4⟩ := h.rm
  exact ⟨⟨g, V, h1, by push_cast; omega, h3, by push_cast; omega⟩, h.db, by have := h.cnt; push_cast; omega⟩
theorem read_cells (q : Qn) (hq : (∃ k, q = .word k) ∨ ∃ k, q = .load k) (m : M) : (q.on m).1.cells = m.cells ∧ (q.on m).1.live = m.live := by
  rcases hq with ⟨k, rfl⟩ | ⟨k, rfl⟩
  · show (m.word k).1.cells = _ ∧ (m.word k).1.live = _
    unfold M.word
    split
    · exact ⟨rfl, rfl⟩
    · split <;> exact ⟨rfl, rfl⟩
  · show (m.load k).1.cells = _ ∧ (m.load k).1.live = _
    unfold M.load
    split
    · exact ⟨rfl, rfl⟩
    · split <;> exact ⟨rfl, rfl⟩
/-- What is read changes nothing. -/
theorem Rp.read (h : Rp S P j m A B) (q : Qn) (hq : (∃ k, q = .word k) ∨ ∃ k, q = .load k) : Rp S P (j + 1) (q.on m).1 A B ∧ (q.on m).2.held.Dv := by
  obtain ⟨g, V, h1, h2, h3, h4⟩ := h.rm
  obtain ⟨c1, c2⟩ := read_cells q hq m
  have hdb := h.db.on (q := q) (by rcases hq with ⟨k, rfl⟩ | ⟨k, rfl⟩ <;> trivial)
  have hr : RM g (q.on m).1 3 S P V A B := by
    obtain ⟨d, st, bf, ow, hl⟩ := h1.lk
    exact ⟨⟨fun i x hx => h1.tidy.gen i x (by rw [← c1]; exact hx), by rw [c1, c2]; exact h1.tidy.liv⟩, by rw [c1]; exact h1.len, by rw [c2]; exact h1.live, h1.al, h1.bl, h1.sf, h1.pf, h1.av, h1.bv, d, st, bf, ow, hl.same fun k => look_cells c1 k⟩
  exact ⟨⟨⟨g, V, hr, by push_cast; omega, h3, by push_cast; omega⟩, hdb.1, by rw [on_count]; have := h.cnt; push_cast; omega⟩, hdb.2⟩
/-- A slot is stored. -/
theorem Rp.store (h : Rp S P j m A B) {k : Nat} (hk : k < S.length) (a : Int) (ha : -1 ≤ a ∧ a ≤ 1073741824) : Rp S P (j + 1) ((Qn.store (S.getD k 0) (a + 1)).on m).1 (A.set k a) B ∧ ((Qn.store (S.getD k 0) (a + 1)).on m).2 = ⟨.no, 0, false, 0⟩ := by
  obtain ⟨g, V, h1, h2, h3, h4⟩ := h.rm
  obtain ⟨m', e1, r1, c1⟩ := h1.store hk a ha
  have hdb := h.db.on (q := .store (S.getD k 0) (a + 1)) trivial
  have e2 := store_on e1
  rw [e2] at hdb ⊢
  exact ⟨⟨⟨g, V, r1, by push_cast; omega, h3, by push_cast; omega⟩, hdb.1, by have := h.cnt; simp only; push_cast; omega⟩, rfl⟩
theorem Rp.slot (h : Rp S P j m A B) {k : Nat} (hk : k < S.length) : ∃ a, A[k]? = some a ∧ -1 ≤ a ∧ a ≤ 1073741824 ∧ ((Qn.word (S.getD k 0)).on m).2 = ⟨.no, a + 1, false, 0⟩ := by
  obtain ⟨g, V, h1, -⟩ := h.rm
  obtain ⟨d, st, bf, ow, hl⟩ := h1.lk
  have hx : S[k]? = some S[k] := List.getElem?_eq_getElem hk
  obtain ⟨-, a, ha, hw⟩ := hl.s k _ hx
  have := h1.av a (List.mem_of_getElem? ha)
  exact ⟨a, ha, this.1, this.2, by rw [getD_of hx, word_on hw]⟩
theorem Rp.place (h : Rp S P j m A B) {k : Nat} {b : Int × Int} (hk : k < P.length) (hb : B[k]? = some b) : -1 ≤ b.2 ∧ b.2 ≤ 1073741824 ∧ ((Qn.word (P.getD k 0)).on m).2 = ⟨.no, pw b, false, 0⟩ := by
  obtain ⟨g, V, h1, -⟩ := h.rm
  obtain ⟨d, st, bf, ow, hl⟩ := h1.lk
  have hx : P[k]? = some P[k] := List.getElem?_eq_getElem hk
  obtain ⟨-, b', hb', hw⟩ := hl.p k _ hx
  rw [hb] at hb'
  cases hb'
  have := h1.bv b (List.mem_of_getElem? hb)
  exact ⟨this.2.2.1, this.2.2.2, by rw [getD_of hx, word_on hw]⟩
theorem Rp.swap (h : Rp S P j m A B) {k : Nat} {b0 : Int × Int} (hk : k < P.length) (hb : B[k]? = some b0) (b : Int × Int) (hv : 0 ≤ b.1 ∧ b.1 ≤ 1 ∧ -1 ≤ b.2 ∧ b.2 ≤ 1073741824) : Rp S P (j + 1) ((Qn.swap (P.getD k 0) (pw b0) (pw b)).on m).1 A (B.set k b) ∧ ((Qn.swap (P.getD k 0) (pw b0) (pw b)).on m).2 = ⟨.no, 0, true, 0⟩ := by
  obtain ⟨g, V, h1, h2, h3, h4⟩ := h.rm
  have hx : P[k]? = some P[k] := List.getElem?_eq_getElem hk
  have hg := (h1.bv b0 (List.mem_of_getElem? hb))
  obtain ⟨m', e1, r1, c1⟩ := h1.swap hx hb b ⟨hv.1, by omega, hv.2.2⟩
  have hdb := h.db.on (q := .swap (P.getD k 0) (pw b0) (pw b)) trivial
  rw [getD_of hx] at hdb ⊢
  have e2 := swap_on e1
  rw [e2] at hdb ⊢
  exact ⟨⟨⟨g + 1, V, r1, by push_cast; omega, h3, by push_cast; omega⟩, hdb.1, by have := h.cnt; simp only; push_cast; omega⟩, rfl⟩
end
/-- What a machine keeps to, by what it sees. -/
structure Ru (α σ : Type) where
  rep : Nat → M → σ → Prop
  rely : σ → σ → Prop
  inv : Int → Nat → σ → Prop
  guar : Int → σ → Int → σ → Prop
  fin : α → Int → σ → Prop
/-- It keeps to it from here on. -/
def Og {α σ : Type} (r : Ru α σ) : Pn α → Int → Nat → σ → Prop
  | .ret a, N, n, s => ∀ s2, r.rely s s2 → r.inv N n s2 ∧ r.fin a N s2
  | .note z p, _, n, s => Og r p z n s
  | .ask q k, N, n, s => ∀ s2, r.rely s s2 → r.inv N n s2 ∧ ∀ j m, j ≤ 1000 → r.rep j m s2 → ∃ s3, r.rep (j + 1) (q.on m).1 s3 ∧ r.guar N s2 ((k (q.on m).2).nt N) s3 ∧ Og r (k (q.on m).2) N (n + 1) s3
section
variable {α β σ : Type} {r : Ru α σ}
theorem Og.skip : ∀ (p : Pn α) (N : Int) (n : Nat) (s : σ), Og r p N n s ↔ Og r p.skip (p.nt N) n s
  | .ret _, _, _, _ => Iff.rfl
  | .ask _ _, _, _, _ => Iff.rfl
  | .note z p, N, n, s => by
    show Og r p z n s ↔ Og r p.skip (p.nt z) n s
    exact Og.skip p z n s
/-- Others' asks. -/
theorem Og.others (ht : ∀ s1 s2 s3, r.rely s1 s2 → r.rely s2 s3 → r.rely s1 s3) : ∀ (p : Pn α) {N : Int} {n : Nat} {s s2 : σ}, Og r p N n s → r.rely s s2 → Og r p N n s2
  | .ret _, _, _, _, _, h, h2 => fun s3 h3 => h s3 (ht _ _ _ h2 h3)
  | .ask _ _, _, _, _, _, h, h2 => fun s3 h3 => h s3 (ht _ _ _ h2 h3)
  | .note _ p, _, _, _, _, h, h2 => Og.others ht p (show Og r p _ _ _ from h) h2
/-- A program that reads alone. -/
def Reads {β : Type} : Pr β → Prop
  | .ret _ => True
  | .ask q k => ((∃ k, q = Qn.word k) ∨ ∃ k, q = Qn.load k) ∧ ∀ a, Reads (k a)
theorem Reads.bind {β γ : Type} {f : β → Pr γ} (hf : ∀ a, Reads (f a)) : ∀ {p : Pr β}, Reads p → Reads (p.bind f)
  | .ret a, _ => hf a
  | .ask _ _, h => ⟨h.1, fun a => Reads.bind hf (h.2 a)⟩
theorem then_nt {Q : β → Prop} {f : β → Pn α} {N : Int} (hnt : ∀ a, Q a → (f a).nt N = N) : ∀ {p : Pr β}, p.Dv Q → (p.then f).nt N = N
  | .ret a, h => hnt a h
  | .ask _ _, _ => rfl
/-- A program that reads, with more behind it. -/
theorem Og.reads (hre : ∀ s, r.rely s s) (hr : ∀ j m s q, (∃ k, q = Qn.word k) ∨ (∃ k, q = Qn.load k) → r.rep j m s → r.rep (j + 1) (q.on m).1 s ∧ (q.on m).2.held.Dv) (hg : ∀ N s, r.guar N s N s) (ht : ∀ s1 s2 s3, r.rely s1 s2 → r.rely s2 s3 → r.rely s1 s3) {N : Int} {Q : β → Prop} {f : β → Pn α}
    (hnt : ∀ a, Q a → (f a).nt N = N) : ∀ {p : Pr β} {n : Nat} {s : σ}, p.Dv Q → Reads p → (∀ n' s2, n ≤ n' → r.rely s s2 → r.inv N n' s2) → (∀ a n' s2, n ≤ n' → Q a → r.rely s s2 → Og r (f a) N n' s2) → Og r (p.then f) N n s
  | .ret a, n, s, h, _, hi, hf => hf a n s (Nat.le_refl _) h (hre s)
  | .ask q k, n, s, h, hq, hi, hf => fun s2 hs2 => ⟨hi n s2 (Nat.le_refl _) hs2, fun j m hj hrep => by
    obtain ⟨h1, h2⟩ := hr j m s2 q hq.1 hrep
    refine ⟨s2, h1, ?_, ?_⟩
    · have : ((k (q.on m).2).then f).nt N = N := then_nt hnt (h.2 _ h2)
      show r.guar N s2 (((k (q.on m).2).then f).nt N) s2
      rw [this]
      exact hg N s2
    · exact Og.reads hre hr hg ht hnt (h.2 _ h2) (hq.2 _) (fun n' s3 hn h3 => hi n' s3 (by omega) (ht _ _ _ hs2 h3)) (fun a n' s3 hn ha h3 => hf a n' s3 (by omega) ha (ht _ _ _ hs2 h3))⟩
end
end Go.Proofs.YtgjkkbgdkdipgaaDoor
