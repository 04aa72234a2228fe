/- What asks come to where nobody stops them: Do. No condition. -/
import Derived.Test.YtbcpdkmbbgcfbaaDoorPrE
namespace Go.Proofs.YtbcpdkmbbgcfbaaDoor
open Go.RowKit Go.Op
set_option maxRecDepth 100000

/-- A program, done. -/
def Pr.go {α : Type} : Pr α → M → α × M
  | .ret a, m => (a, m)
  | .ask q k, m => (k (q.on m).2).go (q.on m).1
theorem Pr.go_bind {α β : Type} : ∀ (p : Pr α) (f : α → Pr β) (m : M), (p.bind f).go m = (f (p.go m).1).go (p.go m).2
  | .ret _, _, _ => rfl
  | .ask q k, f, m => Pr.go_bind (k (q.on m).2) f (q.on m).1
structure Quiet (s : Pt) : Prop where
  told : s.told = []
  spent : s.spent = false
  keeps : s.keeps = false
theorem Quiet.ask {s : Pt} (h : Quiet s) (q : Qn) (m : M) : s.ask q m = (some (q.on m).2, s, (q.on m).1) := Pt.ask_do (by rw [h.told]; rfl) h.spent h.keeps q m
theorem Quiet.run {α : Type} {s : Pt} (h : Quiet s) : ∀ (p : Pr α) (m : M), p.run s m = (some (p.go m).1, s, (p.go m).2)
  | .ret _, _ => by simp only [Pr.run, Pr.go]
  | .ask q k, m => by
    rw [Pr.run_ask, h.ask]
    exact Quiet.run h (k (q.on m).2) (q.on m).1
section
variable {w0 : World} {b c r pb po : Nat} {t t1 : Value} {G G1 : List (Nat × List Value)} {w w1 w2 : World} {m m1 : M} {s s1 : Pt}
theorem Ev.done {α : Type} {R : List (Nat × List Value) → α → Value → Prop} {p : Pr α} {e : Ending} (h : Ev w0 b c r pb po t G w R (p.run s m) e w1) (hs : Quiet s) :
    ∃ t' G' v, e = .returned v ∧ R G' (p.go m).1 v ∧ Aft w0 b c r pb po t G w t' G' w1 (p.go m).2 s := by
  rw [hs.run] at h
  obtain ⟨t', G', ⟨v, h1, h2⟩, h3⟩ := h
  exact ⟨t', G', v, h1, h2, h3⟩
theorem Ev.done1 {R : List (Nat × List Value) → An → Value → Prop} {q : Qn} {e : Ending} (h : Ev w0 b c r pb po t G w R (s.ask q m) e w1) (hs : Quiet s) :
    ∃ t' G' v, e = .returned v ∧ R G' (q.on m).2 v ∧ Aft w0 b c r pb po t G w t' G' w1 (q.on m).1 s := by
  rw [hs.ask] at h
  obtain ⟨t', G', ⟨v, h1, h2⟩, h3⟩ := h
  exact ⟨t', G', v, h1, h2, h3⟩
/-- Memory between two calls, rows' places set aside. -/
def HasE (w0 : World) (b c r : Nat) (G : List (Nat × List Value)) (w : World) (m : M) : Prop :=
  ∃ m0 : M, Has w0 b c r m0.count w m0 ∧ m0.In G ∧ 0 ≤ m0.count ∧ m0.e = m ∧ ∀ g l, (g, l) ∈ G → Rw w g l ∧ w0.heap.size ≤ g ∧ g ≠ b ∧ g ≠ c ∧ g ≠ r
theorem HasE.later (h : HasE w0 b c r G w m) (hb : Below w.heap.size w w1) : HasE w0 b c r G w1 m := by
  obtain ⟨m0, h1, h2, h3, h4, h5⟩ := h
  exact ⟨m0, h1.later hb, h2, h3, h4, fun g l hg => let ⟨q1, q2⟩ := h5 g l hg; ⟨q1.same hb.size (hb.block g q1.lt), q2⟩⟩
/-- A change of other blocks. -/
theorem HasE.aside (h : HasE w0 b c r G w m) {z : Nat} (hk : But z w w1) (hz : z ≠ b ∧ z ≠ c ∧ z ≠ r ∧ w0.heap.size ≤ z ∧ ∀ x, x ∈ G → x.1 ≠ z) : HasE w0 b c r G w1 m := by
  obtain ⟨m0, h1, h2, h3, h4, h5⟩ := h
  have o := h1.at_.own
  obtain ⟨z1, z2, z3, z4, z5⟩ := hz
  refine ⟨m0, h1.same hk.size (h1.below.trans ⟨hk.os, hk.tape, hk.output, hk.size, fun k hk2 => hk.block k (Nat.lt_of_lt_of_le hk2 h1.below.size) (by omega)⟩) (hk.block b o.lb z1.symm) (hk.block c o.lc z2.symm) (hk.block r o.lr z3.symm), h2, h3, h4, fun g l hg => ?_⟩
  obtain ⟨q1, q2⟩ := h5 g l hg
  exact ⟨q1.same hk.size (hk.block g q1.lt (z5 _ hg)), q2⟩
def portObj (b : Nat) : Obj := .cells #[.pointer (some ⟨b, 0, none⟩), .bool false, .slice none 0 0, .int .i64 0, .int .i64 0, .bool false, .bool false] 82
def ptDo (w : World) (b : Nat) : Pt := ⟨false, [], 0, 0, false, false, fun i => (w.alloc (portObj b)).cell? ⟨w.heap.size, i, none⟩⟩
theorem ptDo_quiet (w : World) (b : Nat) : Quiet (ptDo w b) := ⟨rfl, rfl, rfl⟩
theorem do_start (h : HasE w0 b c r G w m) : SysE w0 b c r w.heap.size 0 (.slice none 0 0) G (w.alloc (portObj b)) m (ptDo w b) := by
  obtain ⟨m0, h1, h2, h3, h4, h5⟩ := h
  have hb := (Below.refl w.heap.size w).alloc (Nat.le_refl _) (portObj b)
  have o := h1.at_.own
  have k : ∀ i, (w.alloc (portObj b)).cell? ⟨w.heap.size, i, none⟩ = (#[.pointer (some ⟨b, 0, none⟩), .bool false, .slice none 0 0, .int .i64 0, .int .i64 0, .bool false, .bool false] : Array Value)[i]? := fun i => World.cell?_alloc_new _ _ _ _
  have q1 := o.lb
  have q2 := o.lc
  have q3 := o.lr
  refine ⟨m0, ptDo w b, ⟨h1.later hb, ⟨⟨k 0, k 1, k 2, k 3, k 4, k 5, k 6⟩, fun i => World.frozen?_alloc_at _ 82 _ i rfl, World.ownsRow_nil _ _ _ _, fun e => (by cases e), fun i _ => rfl⟩, ⟨by omega, by omega, by omega⟩, ⟨fun e => (by cases e), fun e => (by cases e), fun e => (by cases e)⟩, h1.below.size, fun g l hg => ?_⟩, h2, fun i a ha => (by simp [ptDo] at ha), ⟨h1.ok, Nat.le_refl _, by simpa [ptDo] using h3⟩, h4, rfl⟩
  obtain ⟨r1, r2, r3, r4, r5⟩ := h5 g l hg
  exact ⟨r1.same hb.size (hb.block g r1.lt), r2, r3, r4, r5, by have := r1.lt; omega, fun e => (by cases e)⟩
theorem SysE.mem (h : SysE w0 b c r pb po t G w m s) : HasE w0 b c r G w m := by
  obtain ⟨m0, s0, h1, h2, h3, h4, h5, h6⟩ := h
  exact ⟨m0, h1.has, h2, by have := h4.ok.cnt; omega, h5, fun g l hg => let ⟨q1, q2, q3, q4, q5, _⟩ := h1.rows g l hg; ⟨q1, q2, q3, q4, q5⟩⟩
/-- Below B all but some blocks is as it was. -/
structure ButN (Z : List Nat) (B : Nat) (w w' : World) : Prop where
  os : w'.os = w.os
  tape : w'.tape = w.tape
  output : w'.output = w.output
  size : w.heap.size ≤ w'.heap.size
  block : ∀ k, k < B → k ∉ Z → w'.heap[k]? = w.heap[k]?
theorem ButN.trans {Z : List Nat} {B : Nat} (h : ButN Z B w w1) (k : ButN Z B w1 w2) : ButN Z B w w2 :=
  ⟨k.os.trans h.os, k.tape.trans h.tape, k.output.trans h.output, Nat.le_trans h.size k.size, fun i hi hz => (k.block i hi hz).trans (h.block i hi hz)⟩
theorem ButN.of {Z : List Nat} {B : Nat} (h : Below w.heap.size w w1) (hB : B ≤ w.heap.size) : ButN Z B w w1 := ⟨h.os, h.tape, h.output, h.size, fun k hk _ => h.block k (Nat.lt_of_lt_of_le hk hB)⟩
theorem ButN.but {Z : List Nat} {B z : Nat} (h : But z w w1) (hB : B ≤ w.heap.size) (hz : z ∈ Z ∨ B ≤ z) : ButN Z B w w1 := ⟨h.os, h.tape, h.output, h.size, fun k hk hn => h.block k (Nat.lt_of_lt_of_le hk hB) (fun e => hz.elim (fun e2 => hn (e ▸ e2)) fun e2 => by omega)⟩
/-- In the midst of a call of Do: what was changed since w. -/
structure Dgo (w0 : World) (b c r pb : Nat) (Z : List Nat) (w : World) (t1 : Value) (G : List (Nat × List Value)) (G1 : List (Nat × List Value)) (w1 : World) (m1 : M) (s1 : Pt) : Prop where
  sys : SysE w0 b c r pb 0 t1 G1 w1 m1 s1
  but : ButN Z w.heap.size w w1
  own : ∀ k, t1.ownBlock = some k → w.heap.size ≤ k
  pb : w.heap.size ≤ pb
  inz : b ∈ Z ∧ c ∈ Z ∧ r ∈ Z
  gro : Grow w G G1
theorem Dgo.start (h : HasE w0 b c r G w m) {Z : List Nat} (hz : b ∈ Z ∧ c ∈ Z ∧ r ∈ Z) : Dgo w0 b c r w.heap.size Z w (.slice none 0 0) G G (w.alloc (portObj b)) m (ptDo w b) :=
  ⟨do_start h, ButN.of ((Below.refl w.heap.size w).alloc (Nat.le_refl _) _) (Nat.le_refl _), fun k e => (by cases e), Nat.le_refl _, hz, Grow.refl _ _⟩
section
variable {Z : List Nat} {t2 : Value} {G0 G2 : List (Nat × List Value)} {m2 : M} {s2 : Pt}
theorem Dgo.aft (h : Dgo w0 b c r pb Z w t1 G0 G1 w1 m1 s1) (k : Aft w0 b c r pb 0 t1 G1 w1 t2 G2 w2 m2 s2) : Dgo w0 b c r pb Z w t2 G0 G2 w2 m2 s2 :=
  ⟨k.sys, h.but.trans ⟨k.but.os, k.but.tape, k.but.output, k.but.size, fun i hi hz => k.but.block i (Nat.lt_of_lt_of_le hi h.but.size) (fun e => hz (e ▸ h.inz.1)) (fun e => hz (e ▸ h.inz.2.1)) (fun e => hz (e ▸ h.inz.2.2)) (by have := h.pb; omega) (fun e => by have := h.own i e.symm; omega)⟩, fun i e => by
    rcases k.row i e with e2 | e2
    · exact h.own i e2
    · exact Nat.le_trans h.but.size e2, h.pb, h.inz, h.gro.trans h.but.size k.gro⟩
theorem Dgo.later (h : Dgo w0 b c r pb Z w t1 G0 G1 w1 m1 s1) (hb : Below w1.heap.size w1 w2) : Dgo w0 b c r pb Z w t1 G0 G1 w2 m1 s1 :=
  ⟨h.sys.later hb, h.but.trans (ButN.of hb h.but.size), h.own, h.pb, h.inz, h.gro⟩
theorem Dgo.aside (h : Dgo w0 b c r pb Z w t1 G0 G1 w1 m1 s1) {z : Nat} (hk : But z w1 w2) (hl : Loc w0 b c r pb t1 G1 w1 z) (hz : z ∈ Z ∨ w.heap.size ≤ z) : Dgo w0 b c r pb Z w t1 G0 G1 w2 m1 s1 :=
  ⟨h.sys.aside hk hl, h.but.trans (ButN.but hk h.but.size hz), h.own, h.pb, h.inz, h.gro⟩
/-- A block that stood before. -/
theorem Dgo.old (h : Dgo w0 b c r pb Z w t1 G0 G1 w1 m1 s1) {z : Nat} (hz : z < w.heap.size) (hn : z ≠ b ∧ z ≠ c ∧ z ≠ r) (hg : w0.heap.size ≤ z) (hG : ∀ x, x ∈ G0 → x.1 ≠ z) : Loc w0 b c r pb t1 G1 w1 z :=
  ⟨Nat.lt_of_lt_of_le hz h.but.size, hg, ⟨hn.1, hn.2.1, hn.2.2, by have := h.pb; omega⟩, fun e => by have := h.own z e; omega, fun x hx e => (h.gro.2 x hx).elim (fun e2 => hG x e2 e) fun e2 => by omega⟩
end
/-- A block of the law's own beside memory and rows. -/
structure LocM (w0 : World) (b c r : Nat) (G : List (Nat × List Value)) (w : World) (z : Nat) : Prop where
  lt : z < w.heap.size
  ge : w0.heap.size ≤ z
  ne : z ≠ b ∧ z ≠ c ∧ z ≠ r
  ng : ∀ x, x ∈ G → x.1 ≠ z
theorem HasE.fresh (h : HasE w0 b c r G w m) (o : Obj) : LocM w0 b c r G (w.alloc o) w.heap.size := by
  obtain ⟨m0, h1, h2, h3, h4, h5⟩ := h
  have o := h1.at_.own
  have h3 := o.lb
  have h4 := o.lc
  have h6 := o.lr
  exact ⟨by simp, h1.below.size, ⟨by omega, by omega, by omega⟩, fun x hx e => by have := (h5 x.1 x.2 hx).1.lt; omega⟩
theorem LocM.later {z : Nat} (h : LocM w0 b c r G w z) (hs : w.heap.size ≤ w1.heap.size) (hg : Grow w G G1) : LocM w0 b c r G1 w1 z :=
  ⟨Nat.lt_of_lt_of_le h.lt hs, h.ge, h.ne, fun x hx e => (hg.2 x hx).elim (fun e2 => h.ng x e2 e) fun e2 => by have := h.lt; omega⟩
theorem LocM.loc {Z : List Nat} {t2 : Value} {m2 : M} {s2 : Pt} {z : Nat} (h : LocM w0 b c r G w z) (hd : Dgo w0 b c r pb Z w t2 G G1 w1 m2 s2) : Loc w0 b c r pb t2 G1 w1 z := hd.old h.lt h.ne h.ge h.ng
/-- Do does what its function does. -/
theorem do_any (w : World) (b : Nat) (fk : FuncId) (caps : Array Value) (Q : Value → World → Prop) (he : ∀ zs w, (callFunc fk zs).run Tryd.prog w = .ok (.enter fk zs) w)
    (hf : Calls Tryd.prog fk (#[.pointer (some ⟨w.heap.size, 0, none⟩)] ++ caps) (w.alloc (portObj b)) fun e w' => ∃ v, e = .returned v ∧ Q v w') :
    Calls Tryd.prog 13 #[.pointer (some ⟨b, 0, none⟩), .func (.func fk) #[] caps] w fun e w' => ∃ v, e = .returned v ∧ Q v w' := by
  unfold portObj at hf
  go_enter Tryd.func13, Tryd.ntmps13
  go_wp2_with fail
  refine hf.mono ?_
  rintro e w1 ⟨v, rfl, hq⟩
  have HQ := Lib.hid hq
  clear hf hq
  go_wp2
  go_ret
  exact ⟨v, rfl, HQ.out⟩
end
end Go.Proofs.YtbcpdkmbbgcfbaaDoor
/- A machine's step: a program run from its log. No condition. -/
namespace Go.Proofs.YtbcpdkmbbgcfbaaDoor
open Go.RowKit Go.Op
set_option maxRecDepth 100000

/-- What is left of a program behind some answers. -/
def Pr.rest {α : Type} : Pr α → List An → Pr α
  | p, [] => p
  | .ret a, _ :: _ => .ret a
  | .ask _ k, a :: l => (k a).rest l
/-- A program that asks for each of them. -/
def Pr.goes {α : Type} : Pr α → List An → Prop
  | _, [] => True
  | .ret _, _ :: _ => False
  | .ask _ k, a :: l => (k a).goes l
theorem Pr.rest_snoc {α : Type} {q : Qn} {k : An → Pr α} (a : An) : ∀ (l : List An) (p : Pr α), p.goes l → p.rest l = .ask q k → p.rest (l ++ [a]) = k a ∧ p.goes (l ++ [a])
  | [], p, _, h => by
    have e : p = .ask q k := by simpa [Pr.rest] using h
    subst e
    simp [Pr.rest, Pr.goes]
  | x :: l, .ret _, hg, _ => by simp [Pr.goes] at hg
  | x :: l, .ask q2 k2, hg, h => by
    simp only [Pr.goes] at hg
    simp only [Pr.rest] at h
    simp only [List.cons_append, Pr.rest, Pr.goes]
    exact Pr.rest_snoc a l (k2 x) hg h
theorem Pr.run_told {α : Type} : ∀ (l pre : List An) (p : Pr α) (s : Pt) (m : M), p.goes l → s.told = pre ++ l → s.place = pre.length → p.run s m = (p.rest l).run { s with place := s.told.length } m
  | [], pre, p, s, m, _, ht, hp => by
    have : s = { s with place := s.told.length } := by
      obtain ⟨a, b, c, d, e, f, g⟩ := s
      simp only at ht hp ⊢
      rw [hp, ht]; simp
    rw [← this]
    simp [Pr.rest]
  | a :: l, pre, .ret _, s, m, hg, _, _ => by simp [Pr.goes] at hg
  | a :: l, pre, .ask q k, s, m, hg, ht, hp => by
    simp only [Pr.goes] at hg
    have hx : s.told[s.place]? = some a := by rw [ht, hp]; simp
    rw [Pr.run_ask, Pt.ask_told hx]
    simp only
    rw [Pr.run_told l (pre ++ [a]) (k a) { s with place := s.place + 1 } m hg (by simp [ht]) (by simp [hp])]
    simp only [Pr.rest]
/-- A fresh port of a machine. -/
structure Fresh (s : Pt) : Prop where
  keeps : s.keeps = true
  place : s.place = 0
  spent : s.spent = false
theorem Pr.run_ret {α : Type} {p : Pr α} {s : Pt} {m : M} {a : α} (h : Fresh s) (hg : p.goes s.told) (hr : p.rest s.told = .ret a) : p.run s m = (some a, { s with place := s.told.length }, m) := by
  rw [Pr.run_told s.told [] p s m hg rfl h.place, hr]
  simp only [Pr.run]
theorem Pr.run_last {α : Type} {p : Pr α} {s : Pt} {m : M} {q : Qn} {k : An → Pr α} {b : α} (h : Fresh s) (hg : p.goes s.told) (hr : p.rest s.told = .ask q k) (hk : k (q.on m).2 = .ret b) :
    p.run s m = (some b, { s with told := s.told ++ [(q.on m).2], place := s.told.length + 1, spent := true }, (q.on m).1) := by
  rw [Pr.run_told s.told [] p s m hg rfl h.place, hr, Pr.run_ask, Pt.ask_keep (s := { s with place := s.told.length }) (by simp) h.spent h.keeps]
  simp only [hk, Pr.run]
theorem Pr.run_more {α : Type} {p : Pr α} {s : Pt} {m : M} {q q2 : Qn} {k k2 : An → Pr α} (h : Fresh s) (hg : p.goes s.told) (hr : p.rest s.told = .ask q k) (hk : k (q.on m).2 = .ask q2 k2) :
    p.run s m = (none, { s with told := s.told ++ [(q.on m).2], place := s.told.length + 1, spent := true, halted := true }, (q.on m).1) := by
  rw [Pr.run_told s.told [] p s m hg rfl h.place, hr, Pr.run_ask, Pt.ask_keep (s := { s with place := s.told.length }) (by simp) h.spent h.keeps]
  simp only [hk]
  rw [Pr.run_ask, Pt.ask_halt (by simp) rfl]
end Go.Proofs.YtbcpdkmbbgcfbaaDoor
/- Many machines of one memory, rows' places set aside: a step of one, memory asked by others. Conditions: at most 900000 asks. -/
namespace Go.Proofs.YtbcpdkmbbgcfbaaDoor
open Go.RowKit Go.Op
set_option maxRecDepth 100000

theorem ask_facts (s : Pt) (q : Qn) (m : M) : (s.ask q m).2.1.keeps = s.keeps ∧ ((s.ask q m).1.isSome = true → (s.ask q m).2.1.halted = s.halted) := by
  cases hx : s.told[s.place]? with
  | some a => rw [Pt.ask_told hx]; exact ⟨rfl, fun _ => rfl⟩
  | none =>
    cases hs : s.spent with
    | true => rw [Pt.ask_halt hx hs]; exact ⟨rfl, fun e => (by cases e)⟩
    | false =>
      cases hk : s.keeps with
      | true => rw [Pt.ask_keep hx hs hk]; exact ⟨hk, fun _ => rfl⟩
      | false => rw [Pt.ask_do hx hs hk]; exact ⟨hk, fun _ => rfl⟩
/-- What a run leaves of a port, and of memory's count. -/
structure RunF {α : Type} (s : Pt) (m : M) (o : Option α × Pt × M) : Prop where
  ext : o.2.1.ext = s.ext
  keeps : o.2.1.keeps = s.keeps
  live : o.1.isSome = true → o.2.1.halted = s.halted
  cnt : m.count ≤ o.2.2.count
theorem Pr.run_facts {α : Type} : ∀ (p : Pr α) (s : Pt) (m : M), RunF s m (p.run s m)
  | .ret a, s, m => ⟨rfl, rfl, fun _ => rfl, Int.le_refl _⟩
  | .ask q k, s, m => by
    obtain ⟨h1, h2⟩ := ask_facts s q m
    obtain ⟨h3, _, h4⟩ := ask_count s q m
    rw [Pr.run_ask]
    generalize s.ask q m = u at h1 h2 h3 h4 ⊢
    obtain ⟨_ | a, s', m'⟩ := u
    · exact ⟨h4, h1, fun e => (by cases e), h3⟩
    · have ih := Pr.run_facts (k a) s' m'
      show RunF s m ((k a).run s' m')
      exact ⟨ih.ext.trans h4, ih.keeps.trans h1, fun e => (ih.live e).trans (h2 rfl), Int.le_trans h3 ih.cnt⟩

/-- Many machines of one memory. -/
def TeamE (w0 : World) (b c r : Nat) (G : List (Nat × List Value)) (w : World) (m : M) (L : List Mach) : Prop :=
  ∃ m0 : M, Team w0 b c r m0.count G w m0 L ∧ m0.In G ∧ 0 ≤ m0.count ∧ m0.e = m ∧ (∀ g l, (g, l) ∈ G → Rw w g l ∧ w0.heap.size ≤ g ∧ g ≠ b ∧ g ≠ c ∧ g ≠ r) ∧ ∀ (i : Nat) (x : Mach), L[i]? = some x → x.fin = false → x.s.In G ∧ Fit x.s m0
section
variable {w0 : World} {b c r : Nat} {G G' : List (Nat × List Value)} {w w' : World} {m m' : M} {L : List Mach}
theorem TeamE.has (h : TeamE w0 b c r G w m L) : HasE w0 b c r G w m := by
  obtain ⟨m0, h1, h2, h3, h4, h5, h6⟩ := h
  exact ⟨m0, h1.has, h2, h3, h4, h5⟩
theorem TeamE.nil (h : HasE w0 b c r G w m) : TeamE w0 b c r G w m [] := by
  obtain ⟨m0, h1, h2, h3, h4, h5⟩ := h
  exact ⟨m0, Team.nil h1, h2, h3, h4, h5, fun i x hx => (by simp at hx)⟩
theorem TeamE.later (h : TeamE w0 b c r G w m L) (hb : Below w.heap.size w w') : TeamE w0 b c r G w' m L := by
  obtain ⟨m0, h1, h2, h3, h4, h5, h6⟩ := h
  exact ⟨m0, h1.later hb, h2, h3, h4, fun g l hg => let ⟨q1, q2⟩ := h5 g l hg; ⟨q1.same hb.size (hb.block g q1.lt), q2⟩, h6⟩
/-- Memory is asked by others. -/
theorem TeamE.mem (h : TeamE w0 b c r G w m L) (k : HasE w0 b c r G' w' m') (hb : ButN [b, c, r] w.heap.size w w') (hg : Grow w G G') (hc : m.count ≤ m'.count ∨ ∀ (i : Nat) (x : Mach), L[i]? = some x → x.fin = false → (x.s.e.told.length : Int) ≤ m'.count) : TeamE w0 b c r G' w' m' L := by
  obtain ⟨m0, h1, h2, h3, h4, h5, h6⟩ := h
  obtain ⟨m1, k1, k2, k3, k4, k5⟩ := k
  subst h4
  subst k4
  refine ⟨m1, h1.mem k1 ⟨hb.os, hb.tape, hb.output, hb.size, fun z hz e1 e2 e3 => hb.block z hz (by simp; exact ⟨e1, e2, e3⟩)⟩ hg k5, k2, k3, rfl, k5, fun i x hx hf => ?_⟩
  obtain ⟨q1, q2⟩ := h6 i x hx hf
  refine ⟨q1.more hg.1, k1.ok, q2.le, ?_⟩
  rcases hc with hc | hc
  · exact Int.le_trans q2.len hc
  · have := hc i x hx hf
    have e1 : x.s.e.told.length = x.s.told.length := by simp [Pt.e]
    rw [e1] at this
    exact this
/-- A change of a block of the law's own. -/
theorem TeamE.aside {z : Nat} (h : TeamE w0 b c r G w m L) (hk : But z w w') (hz : LocM w0 b c r G w z) (ho : Off z b c r w L) : TeamE w0 b c r G w' m L := by
  obtain ⟨m0, h1, h2, h3, h4, h5, h6⟩ := h
  refine ⟨m0, h1.beside (g := z) hk.size (h1.has.below.trans ⟨hk.os, hk.tape, hk.output, hk.size, fun k hk2 => hk.block k (Nat.lt_of_lt_of_le hk2 h1.has.below.size) (by have := hz.ge; omega)⟩) hk.block hz.ng ⟨hz.ne.1, hz.ne.2.1, hz.ne.2.2, ho.x⟩, h2, h3, h4, fun g l hg => ?_, h6⟩
  obtain ⟨q1, q2⟩ := h5 g l hg
  exact ⟨q1.same hk.size (hk.block g q1.lt (hz.ng _ hg)), q2⟩
theorem TeamE.add (h : TeamE w0 b c r G w m L) (f : Value) : TeamE w0 b c r G (w.alloc (machObj b f)) m (L ++ [mach0 w.heap.size f]) := by
  obtain ⟨m0, h1, h2, h3, h4, h5, h6⟩ := h
  have hb := (Below.refl w.heap.size w).alloc (Nat.le_refl _) (machObj b f)
  refine ⟨m0, h1.add h5 f, h2, h3, h4, fun g l hg => let ⟨q1, q2⟩ := h5 g l hg; ⟨q1.same hb.size (hb.block g q1.lt), q2⟩, fun i x hx hf => ?_⟩
  rw [List.getElem?_append] at hx
  split at hx
  · exact h6 i x hx hf
  · have hj := (List.getElem?_eq_some_iff.1 hx).1
    simp at hj
    obtain rfl : i = L.length := by omega
    simp at hx
    subst hx
    exact ⟨fun i a ha => (by simp [mach0] at ha), h1.has.ok, Nat.le_refl _, by simpa [mach0] using h3⟩
/-- A step of one that has ended. -/
theorem TeamE.done (h : TeamE w0 b c r G w m L) {i : Nat} {x : Mach} (hi : L[i]? = some x) (hf : x.fin = true) : Calls Tryd.prog 27 #[.pointer (some ⟨x.xb, 0, none⟩)] w fun e w' => e = .returned (.bool true) ∧ w = w' := by
  obtain ⟨m0, h1, -⟩ := h
  have := h1.mac i x hi
  rw [hf] at this
  exact step_done this
theorem TeamE.ended (h : TeamE w0 b c r G w m L) {i : Nat} {x : Mach} (hi : L[i]? = some x) : Calls Tryd.prog 28 #[.pointer (some ⟨x.xb, 0, none⟩)] w fun e w' => e = .returned (.bool x.fin) ∧ w = w' := by
  obtain ⟨m0, h1, -⟩ := h
  exact ended_any (h1.mac i x hi)
theorem TeamE.out (h : TeamE w0 b c r G w m L) {i : Nat} {x : Mach} (hi : L[i]? = some x) : Calls Tryd.prog 29 #[.pointer (some ⟨x.xb, 0, none⟩)] w fun e w' => e = .returned x.out ∧ w = w' := by
  obtain ⟨m0, h1, -⟩ := h
  exact out_any (h1.mac i x hi)
/-- What a step comes to. -/
structure StepE {α : Type} (w0 : World) (b c r : Nat) (G : List (Nat × List Value)) (w : World) (L : List Mach) (i : Nat) (x : Mach) (R : α → Value → Prop) (o : Option α × Pt × M) (e : Ending) (w' : World) (y : Mach) (G' : List (Nat × List Value)) : Prop where
  xb : y.xb = x.xb
  team : TeamE w0 b c r G' w' o.2.2 (L.set i y)
  but : But5 b c r x.xb x.t w w'
  row : Row2 w x.t y.t
  gro : Grow w G G'
  out : (∃ a, o.1 = some a ∧ e = .returned (.bool true) ∧ y.fin = true ∧ R a y.out ∧ y.s.place = o.2.1.place ∧ y.s.noted = o.2.1.noted) ∨ (o.1 = none ∧ e = .returned (.bool false) ∧ y.fin = false ∧ y.f = x.f ∧ y.out = x.out ∧ y.s.e = o.2.1)
theorem TeamE.step {α : Type} (h : TeamE w0 b c r G w m L) {i : Nat} {x : Mach} (hi : L[i]? = some x) (hfin : x.fin = false) {fk : FuncId} {caps : Array Value} (hf : x.f = .func (.func fk) #[] caps) (he : ∀ zs w, (callFunc fk zs).run Tryd.prog w = .ok (.enter fk zs) w)
    (R : α → Value → Prop) (hR : ∀ a v, R a v → ∃ ty u, v = .iface ty u) (o : Option α × Pt × M) (hF : RunF x.s.fresh.e m o) (hc : o.2.2.count ≤ 900000)
    (hfn : ∀ w1, SysE w0 b c r x.xb 1 x.t G w1 m x.s.fresh.e → But x.xb w w1 → Calls Tryd.prog fk (#[.pointer (some ⟨x.xb, 1, none⟩)] ++ caps) w1 fun e w' => Ev w0 b c r x.xb 1 x.t G w1 (fun _ => R) o e w') :
    Calls Tryd.prog 27 #[.pointer (some ⟨x.xb, 0, none⟩)] w fun e w' => ∃ y G', StepE w0 b c r G w L i x R o e w' y G' := by
  obtain ⟨m0, h1, h2, h3, h4, h5, h6⟩ := h
  obtain ⟨i1, i2⟩ := h6 i x hi hfin
  have hM := h1.mac i x hi
  rw [hfin, hf] at hM
  have hfit : Fit x.s.fresh m0 := ⟨i2.ok, Nat.zero_le _, i2.len⟩
  refine (step_run hM (fun ov m' s' G' => m'.e = o.2.2 ∧ s'.e = o.2.1 ∧ m'.In G' ∧ s'.In G' ∧ Fit s' m' ∧ 0 ≤ m'.count ∧ match ov with
    | some v => ∃ a, o.1 = some a ∧ R a v
    | none => o.1 = none) he o.2.2.count (fun w1 hS hB => ?_)).mono ?_
  · have hE : SysE w0 b c r x.xb 1 x.t G w1 m x.s.fresh.e := ⟨m0, x.s.fresh, hS, h2, i1, hfit, h4, rfl⟩
    refine (hfn w1 hE hB).mono fun e w' hv => ?_
    rcases hv.cases with ⟨t', G', s', m', eo, rfl, ha⟩ | ⟨t', G', s', m', a, v, eo, rfl, hr, ha⟩
    · obtain ⟨m1, s1, q1, q2, q3, q4, rfl, rfl⟩ := ha.sys
      have e1 : m1.count = o.2.2.count := by rw [eo]; rfl
      refine ⟨.inr ⟨rfl, t', m1, s1, G', q1.less (by omega), ha.row, q4.pok (by omega), ?_, ha.gro, by rw [eo], by rw [eo], q2, q3, q4, by have := q4.ok.cnt; omega, by rw [eo]⟩, ha.but⟩
      have := hF.ext
      rw [eo] at this
      exact this
    · obtain ⟨m1, s1, q1, q2, q3, q4, rfl, rfl⟩ := ha.sys
      have e1 : m1.count = o.2.2.count := by rw [eo]; rfl
      obtain ⟨ty, u, rfl⟩ := hR a v hr
      refine ⟨.inl ⟨ty, u, rfl, ⟨t', m1, s1, G', q1.less (by omega), ha.row, q4.pok (by omega), ?_, ha.gro, by rw [eo], by rw [eo], q2, q3, q4, by have := q4.ok.cnt; omega, a, by rw [eo], hr⟩, ?_⟩, ha.but⟩
      · have := hF.ext
        rw [eo] at this
        exact this
      · have := hF.live (by rw [eo]; rfl)
        rw [eo] at this
        have e2 : s1.halted = false := this
        rw [← e2]
        exact q1.pt.cells.c6
  · rintro e w' ⟨t', m', s', G', hcs, hb, hr, hg⟩
    have hcn := hF.cnt
    have key : ∀ (y : Mach), y.xb = x.xb → y.t = t' → m'.e = o.2.2 → m'.In G' → Mac w0 b c r o.2.2.count G' y.xb y.t w' m' y.s y.f y.fin y.out → (y.fin = false → y.s.In G' ∧ Fit y.s m') → m'.Ok m'.count → 0 ≤ m'.count → TeamE w0 b c r G' w' o.2.2 (L.set i y) := fun y hy ht e1 e2 hm hq hok h0 => by
      have ec : o.2.2.count = m'.count := by rw [← e1]; rfl
      rw [ec] at hm
      refine ⟨m', h1.step hi hy hm hb (by rw [ht]; exact hr) hg, e2, h0, e1, hm.sys.rows.bare, fun j z hz hzf => ?_⟩
      rw [List.getElem?_set] at hz
      split at hz
      · split at hz
        · cases hz; exact hq hzf
        · cases hz
      · obtain ⟨z1, z2⟩ := h6 j z hz hzf
        have e3 : m0.count = m.count := by rw [← h4]; rfl
        exact ⟨z1.more hg.1, hok, z2.le, by have := z2.len; omega⟩
    rcases hcs with ⟨v, rfl, s1, ⟨f1, f2, f3, f4, f5, f6, a, f7, f8⟩, e8, e9, hM2⟩ | ⟨rfl, ⟨f1, f2, f3, f4, f5, f6, f7⟩, hM2⟩
    · exact ⟨⟨x.xb, t', s', .nilFunc, true, v⟩, G', rfl, key _ rfl rfl f1 f3 hM2 (fun e => (by cases e)) f5.ok f6, hb, hr, hg, .inl ⟨a, f7, rfl, rfl, f8, e8.trans (by rw [← f2]; rfl), e9.trans (by rw [← f2]; rfl)⟩⟩
    · exact ⟨⟨x.xb, t', s', x.f, false, x.out⟩, G', rfl, key _ rfl rfl f1 f3 (by rw [hf]; exact hM2) (fun _ => ⟨f4, f5⟩) f5.ok f6, hb, hr, hg, .inr ⟨f7, rfl, rfl, rfl, rfl, f2⟩⟩
end
end Go.Proofs.YtbcpdkmbbgcfbaaDoor
