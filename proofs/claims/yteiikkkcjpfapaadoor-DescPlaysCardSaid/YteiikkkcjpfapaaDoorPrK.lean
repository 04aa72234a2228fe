/- What asks come to where nobody stops them: Do. No condition. -/
import Derived.Test.YteiikkkcjpfapaaDoorPrJ
namespace Go.Proofs.YteiikkkcjpfapaaDoor
open Go.RowKit Go.Op
set_option maxRecDepth 100000

/-- A program, done. -/
def Pr.go {α : Type} : Pr α → M → α × M
  | .ret a, m => (a, m)
  | .ask q k, m => (k (q.on m).2).go (q.on m).1
theorem Pr.go_bind {α β : Type} : ∀ (p : Pr α) (f : α → Pr β) (m : M), (p.bind f).go m = (f (p.go m).1).go (p.go m).2
  | .ret _, _, _ => rfl
  | .ask q k, f, m => Pr.go_bind (k (q.on m).2) f (q.on m).1
structure Quiet (s : Pt) : Prop where
  told : s.told = []
  spent : s.spent = false
  keeps : s.keeps = false
theorem Quiet.ask {s : Pt} (h : Quiet s) (q : Qn) (m : M) : s.ask q m = (some (q.on m).2, s, (q.on m).1) := Pt.ask_do (by rw [h.told]; rfl) h.spent h.keeps q m
theorem Quiet.run {α : Type} {s : Pt} (h : Quiet s) : ∀ (p : Pr α) (m : M), p.run s m = (some (p.go m).1, s, (p.go m).2)
  | .ret _, _ => by simp only [Pr.run, Pr.go]
  | .ask q k, m => by
    rw [Pr.run_ask, h.ask]
    exact Quiet.run h (k (q.on m).2) (q.on m).1
section
variable {w0 : World} {b c r pb po : Nat} {t t1 : Value} {G G1 : List (Nat × List Sw)} {w w1 w2 : World} {m m1 : M} {s s1 : Pt}
theorem Ev.done {α : Type} {R : List (Nat × List Sw) → α → Value → Prop} {p : Pr α} {e : Ending} (h : Ev w0 b c r pb po t G w R (p.run s m) e w1) (hs : Quiet s) :
    ∃ t' G' v, e = .returned v ∧ R G' (p.go m).1 v ∧ Aft w0 b c r pb po t G w t' G' w1 (p.go m).2 s := by
  rw [hs.run] at h
  obtain ⟨t', G', ⟨v, h1, h2⟩, h3⟩ := h
  exact ⟨t', G', v, h1, h2, h3⟩
theorem Ev.done1 {R : List (Nat × List Sw) → An → Value → Prop} {q : Qn} {e : Ending} (h : Ev w0 b c r pb po t G w R (s.ask q m) e w1) (hs : Quiet s) :
    ∃ t' G' v, e = .returned v ∧ R G' (q.on m).2 v ∧ Aft w0 b c r pb po t G w t' G' w1 (q.on m).1 s := by
  rw [hs.ask] at h
  obtain ⟨t', G', ⟨v, h1, h2⟩, h3⟩ := h
  exact ⟨t', G', v, h1, h2, h3⟩
/-- Memory between two calls, rows' places set aside. -/
def HasE (w0 : World) (b c r : Nat) (G : List (Nat × List Sw)) (w : World) (m : M) : Prop :=
  ∃ m0 : M, Has w0 b c r m0.count w m0 ∧ m0.In G ∧ 0 ≤ m0.count ∧ m0.e = m ∧ ∀ g l, (g, l) ∈ G → Rw w g l ∧ w0.heap.size ≤ g ∧ g ≠ b ∧ g ≠ c ∧ g ≠ r
theorem HasE.later (h : HasE w0 b c r G w m) (hb : Below w.heap.size w w1) : HasE w0 b c r G w1 m := by
  obtain ⟨m0, h1, h2, h3, h4, h5⟩ := h
  exact ⟨m0, h1.later hb, h2, h3, h4, fun g l hg => let ⟨q1, q2⟩ := h5 g l hg; ⟨q1.same hb.size (hb.block g q1.lt), q2⟩⟩
/-- A change of other blocks. -/
theorem HasE.aside (h : HasE w0 b c r G w m) {z : Nat} (hk : But z w w1) (hz : z ≠ b ∧ z ≠ c ∧ z ≠ r ∧ w0.heap.size ≤ z ∧ ∀ x, x ∈ G → x.1 ≠ z) : HasE w0 b c r G w1 m := by
  obtain ⟨m0, h1, h2, h3, h4, h5⟩ := h
  have o := h1.at_.own
  obtain ⟨z1, z2, z3, z4, z5⟩ := hz
  refine ⟨m0, h1.same hk.size (h1.below.trans ⟨hk.os, hk.tape, hk.output, hk.size, fun k hk2 => hk.block k (Nat.lt_of_lt_of_le hk2 h1.below.size) (by omega)⟩) (hk.block b o.lb z1.symm) (hk.block c o.lc z2.symm) (hk.block r o.lr z3.symm), h2, h3, h4, fun g l hg => ?_⟩
  obtain ⟨q1, q2⟩ := h5 g l hg
  exact ⟨q1.same hk.size (hk.block g q1.lt (z5 _ hg)), q2⟩
def portObj (b : Nat) : Obj := .cells #[.pointer (some ⟨b, 0, none⟩), .bool false, .slice none 0 0, .int .i64 0, .int .i64 0, .bool false, .bool false] 84
def ptDo (w : World) (b : Nat) : Pt := ⟨false, [], 0, 0, false, false, fun i => (w.alloc (portObj b)).cell? ⟨w.heap.size, i, none⟩⟩
theorem ptDo_quiet (w : World) (b : Nat) : Quiet (ptDo w b) := ⟨rfl, rfl, rfl⟩
theorem do_start (h : HasE w0 b c r G w m) : SysE w0 b c r w.heap.size 0 (.slice none 0 0) G (w.alloc (portObj b)) m (ptDo w b) := by
  obtain ⟨m0, h1, h2, h3, h4, h5⟩ := h
  have hb := (Below.refl w.heap.size w).alloc (Nat.le_refl _) (portObj b)
  have o := h1.at_.own
  have k : ∀ i, (w.alloc (portObj b)).cell? ⟨w.heap.size, i, none⟩ = (#[.pointer (some ⟨b, 0, none⟩), .bool false, .slice none 0 0, .int .i64 0, .int .i64 0, .bool false, .bool false] : Array Value)[i]? := fun i => World.cell?_alloc_new _ _ _ _
  have q1 := o.lb
  have q2 := o.lc
  have q3 := o.lr
  refine ⟨m0, ptDo w b, ⟨h1.later hb, ⟨⟨k 0, k 1, k 2, k 3, k 4, k 5, k 6⟩, fun i => World.frozen?_alloc_at _ 84 _ i rfl, World.ownsRow_nil _ _ _ _, fun e => (by cases e), fun i _ => rfl⟩, ⟨by omega, by omega, by omega⟩, ⟨fun e => (by cases e), fun e => (by cases e), fun e => (by cases e)⟩, h1.below.size, fun g l hg => ?_⟩, h2, fun i a ha => (by simp [ptDo] at ha), ⟨h1.ok, Nat.le_refl _, by simpa [ptDo] using h3⟩, h4, rfl⟩
  obtain ⟨r1, r2, r3, r4, r5⟩ := h5 g l hg
  exact ⟨r1.same hb.size (hb.block g r1.lt), r2, r3, r4, r5, by have := r1.lt; omega, fun e => (by cases e)⟩
theorem SysE.mem (h : SysE w0 b c r pb po t G w m s) : HasE w0 b c r G w m := by
  obtain ⟨m0, s0, h1, h2, h3, h4, h5, h6⟩ := h
  exact ⟨m0, h1.has, h2, by have := h4.ok.cnt; omega, h5, fun g l hg => let ⟨q1, q2, q3, q4, q5, _⟩ := h1.rows g l hg; ⟨q1, q2, q3, q4, q5⟩⟩
/-- Below B all but some blocks is as it was. -/
structure ButN (Z : List Nat) (B : Nat) (w w' : World) : Prop where
  os : w'.os = w.os
  tape : w'.tape = w.tape
  output : w'.output = w.output
  size : w.heap.size ≤ w'.heap.size
  block : ∀ k, k < B → k ∉ Z → w'.heap[k]? = w.heap[k]?
theorem ButN.trans {Z : List Nat} {B : Nat} (h : ButN Z B w w1) (k : ButN Z B w1 w2) : ButN Z B w w2 :=
  ⟨k.os.trans h.os, k.tape.trans h.tape, k.output.trans h.output, Nat.le_trans h.size k.size, fun i hi hz => (k.block i hi hz).trans (h.block i hi hz)⟩
theorem ButN.of {Z : List Nat} {B : Nat} (h : Below w.heap.size w w1) (hB : B ≤ w.heap.size) : ButN Z B w w1 := ⟨h.os, h.tape, h.output, h.size, fun k hk _ => h.block k (Nat.lt_of_lt_of_le hk hB)⟩
theorem ButN.but {Z : List Nat} {B z : Nat} (h : But z w w1) (hB : B ≤ w.heap.size) (hz : z ∈ Z ∨ B ≤ z) : ButN Z B w w1 := ⟨h.os, h.tape, h.output, h.size, fun k hk hn => h.block k (Nat.lt_of_lt_of_le hk hB) (fun e => hz.elim (fun e2 => hn (e ▸ e2)) fun e2 => by omega)⟩
/-- In the midst of a call of Do: what was changed since w. -/
structure Dgo (w0 : World) (b c r pb : Nat) (Z : List Nat) (w : World) (t1 : Value) (G : List (Nat × List Sw)) (G1 : List (Nat × List Sw)) (w1 : World) (m1 : M) (s1 : Pt) : Prop where
  sys : SysE w0 b c r pb 0 t1 G1 w1 m1 s1
  but : ButN Z w.heap.size w w1
  own : ∀ k, t1.ownBlock = some k → w.heap.size ≤ k
  pb : w.heap.size ≤ pb
  inz : b ∈ Z ∧ c ∈ Z ∧ r ∈ Z
  gro : Grow w G G1
theorem Dgo.start (h : HasE w0 b c r G w m) {Z : List Nat} (hz : b ∈ Z ∧ c ∈ Z ∧ r ∈ Z) : Dgo w0 b c r w.heap.size Z w (.slice none 0 0) G G (w.alloc (portObj b)) m (ptDo w b) :=
  ⟨do_start h, ButN.of ((Below.refl w.heap.size w).alloc (Nat.le_refl _) _) (Nat.le_refl _), fun k e => (by cases e), Nat.le_refl _, hz, Grow.refl _ _⟩
section
variable {Z : List Nat} {t2 : Value} {G0 G2 : List (Nat × List Sw)} {m2 : M} {s2 : Pt}
theorem Dgo.aft (h : Dgo w0 b c r pb Z w t1 G0 G1 w1 m1 s1) (k : Aft w0 b c r pb 0 t1 G1 w1 t2 G2 w2 m2 s2) : Dgo w0 b c r pb Z w t2 G0 G2 w2 m2 s2 :=
  ⟨k.sys, h.but.trans ⟨k.but.os, k.but.tape, k.but.output, k.but.size, fun i hi hz => k.but.block i (Nat.lt_of_lt_of_le hi h.but.size) (fun e => hz (e ▸ h.inz.1)) (fun e => hz (e ▸ h.inz.2.1)) (fun e => hz (e ▸ h.inz.2.2)) (by have := h.pb; omega) (fun e => by have := h.own i e.symm; omega)⟩, fun i e => by
    rcases k.row i e with e2 | e2
    · exact h.own i e2
    · exact Nat.le_trans h.but.size e2, h.pb, h.inz, h.gro.trans h.but.size k.gro⟩
theorem Dgo.later (h : Dgo w0 b c r pb Z w t1 G0 G1 w1 m1 s1) (hb : Below w1.heap.size w1 w2) : Dgo w0 b c r pb Z w t1 G0 G1 w2 m1 s1 :=
  ⟨h.sys.later hb, h.but.trans (ButN.of hb h.but.size), h.own, h.pb, h.inz, h.gro⟩
theorem Dgo.aside (h : Dgo w0 b c r pb Z w t1 G0 G1 w1 m1 s1) {z : Nat} (hk : But z w1 w2) (hl : Loc w0 b c r pb t1 G1 w1 z) (hz : z ∈ Z ∨ w.heap.size ≤ z) : Dgo w0 b c r pb Z w t1 G0 G1 w2 m1 s1 :=
  ⟨h.sys.aside hk hl, h.but.trans (ButN.but hk h.but.size hz), h.own, h.pb, h.inz, h.gro⟩
/-- A block that stood before. -/
theorem Dgo.old (h : Dgo w0 b c r pb Z w t1 G0 G1 w1 m1 s1) {z : Nat} (hz : z < w.heap.size) (hn : z ≠ b ∧ z ≠ c ∧ z ≠ r) (hg : w0.heap.size ≤ z) (hG : ∀ x, x ∈ G0 → x.1 ≠ z) : Loc w0 b c r pb t1 G1 w1 z :=
  ⟨Nat.lt_of_lt_of_le hz h.but.size, hg, ⟨hn.1, hn.2.1, hn.2.2, by have := h.pb; omega⟩, fun e => by have := h.own z e; omega, fun x hx e => (h.gro.2 x hx).elim (fun e2 => hG x e2 e) fun e2 => by omega⟩
end
/-- A block of the law's own beside memory and rows. -/
structure LocM (w0 : World) (b c r : Nat) (G : List (Nat × List Sw)) (w : World) (z : Nat) : Prop where
  lt : z < w.heap.size
  ge : w0.heap.size ≤ z
  ne : z ≠ b ∧ z ≠ c ∧ z ≠ r
  ng : ∀ x, x ∈ G → x.1 ≠ z
theorem HasE.fresh (h : HasE w0 b c r G w m) (o : Obj) : LocM w0 b c r G (w.alloc o) w.heap.size := by
  obtain ⟨m0, h1, h2, h3, h4, h5⟩ := h
  have o := h1.at_.own
  have h3 := o.lb
  have h4 := o.lc
  have h6 := o.lr
  exact ⟨by simp, h1.below.size, ⟨by omega, by omega, by omega⟩, fun x hx e => by have := (h5 x.1 x.2 hx).1.lt; omega⟩
theorem LocM.later {z : Nat} (h : LocM w0 b c r G w z) (hs : w.heap.size ≤ w1.heap.size) (hg : Grow w G G1) : LocM w0 b c r G1 w1 z :=
  ⟨Nat.lt_of_lt_of_le h.lt hs, h.ge, h.ne, fun x hx e => (hg.2 x hx).elim (fun e2 => h.ng x e2 e) fun e2 => by have := h.lt; omega⟩
theorem LocM.loc {Z : List Nat} {t2 : Value} {m2 : M} {s2 : Pt} {z : Nat} (h : LocM w0 b c r G w z) (hd : Dgo w0 b c r pb Z w t2 G G1 w1 m2 s2) : Loc w0 b c r pb t2 G1 w1 z := hd.old h.lt h.ne h.ge h.ng
/-- Do does what its function does. -/
theorem do_any (w : World) (b : Nat) (fk : FuncId) (caps : Array Value) (Q : Value → World → Prop) (he : ∀ zs w, (callFunc fk zs).run Tryd.prog w = .ok (.enter fk zs) w)
    (hf : Calls Tryd.prog fk (#[.pointer (some ⟨w.heap.size, 0, none⟩)] ++ caps) (w.alloc (portObj b)) fun e w' => ∃ v, e = .returned v ∧ Q v w') :
    Calls Tryd.prog 11 #[.pointer (some ⟨b, 0, none⟩), .func (.func fk) #[] caps] w fun e w' => ∃ v, e = .returned v ∧ Q v w' := by
  unfold portObj at hf
  go_enter Tryd.func11, Tryd.ntmps11
  go_wp2_with fail
  refine hf.mono ?_
  rintro e w1 ⟨v, rfl, hq⟩
  have HQ := Lib.hid hq
  clear hf hq
  go_wp2
  go_ret
  exact ⟨v, rfl, HQ.out⟩
end
end Go.Proofs.YteiikkkcjpfapaaDoor
