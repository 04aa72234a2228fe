/- A port, a machine in the program's memory; what begin, again, Note, Ended, Steps, Noted, Out answer and make of them. No condition. -/
import Derived.Test.YtibimnibmengpaaDoorWalkI
import Derived.Test.YtibimnibmengpaaDoorVGen
import Derived.Maps.AppendAt
import Derived.BigQuiet
import Derived.Lib.Builder
import Derived.Defers
import Derived.Recover
namespace Go.Proofs.YtibimnibmengpaaDoor
open Go.RowKit Go.Op
set_option maxRecDepth 100000

/-- What memory answered to an ask. -/
structure An where
  held : Held
  n : Int
  ok : Bool
  err : Int
def An.row (a : An) : List Value := [a.held.v, .int .i64 a.n, .bool a.ok, .int .i64 a.err]
def An.v (a : An) : Value := .agg #[a.held.v, .int .i64 a.n, .bool a.ok, .int .i64 a.err]
def tRow (l : List An) : List Value := l.flatMap An.row
theorem tRow_length : ∀ l : List An, (tRow l).length = l.length * 4
  | [] => rfl
  | e :: l => by
    have ih := tRow_length l
    simp only [tRow, List.flatMap_cons, List.length_append, List.length_cons] at ih ⊢
    rw [ih, show e.row.length = 4 from rfl]; omega
theorem tRow_get : ∀ (l : List An) (k : Nat) (hk : k < l.length) (j : Nat), j < 4 → (tRow l)[k * 4 + j]? = ((l[k]'hk).row)[j]?
  | [], _, hk, _, _ => by simp at hk
  | e :: l, 0, _, j, hj => by
    simp only [tRow, List.flatMap_cons]
    rw [List.getElem?_append_left (by rw [show e.row.length = 4 from rfl]; omega)]
    simp
  | e :: l, k + 1, hk, j, hj => by
    have ih := tRow_get l k (by simpa using hk) j hj
    simp only [tRow, List.flatMap_cons] at ih ⊢
    rw [List.getElem?_append_right (by rw [show e.row.length = 4 from rfl]; omega), show e.row.length = 4 from rfl, show (k + 1) * 4 + j - 4 = k * 4 + j by omega]
    exact ih
theorem add_off (b o j : Nat) : (⟨b, o, none⟩ : Addr).add j = ⟨b, o + j, none⟩ := by simp [Addr.add]
theorem held_one (x : Held) : x.v.oneCell' = true := by cases x <;> rfl
theorem t_one {l : List An} : ∀ u ∈ tRow l, u.oneCell' = true := by
  intro u hu
  simp only [tRow, List.mem_flatMap, An.row] at hu
  obtain ⟨e, _, he⟩ := hu
  simp at he
  rcases he with rfl | rfl | rfl | rfl
  · exact held_one _
  all_goals rfl
/-- A port: does it keep answers; those that it was told; how many of them were told again; what was noted last; did it ask in this step; was it stopped; what else its block holds. -/
structure Pt where
  keeps : Bool
  told : List An
  place : Nat
  noted : Int
  spent : Bool
  halted : Bool
  ext : Nat → Option Value
/-- A port's cells, at an offset of a block. -/
structure PCells (w : World) (pb po mb : Nat) (t : Value) (s : Pt) : Prop where
  c0 : w.cell? ⟨pb, po, none⟩ = some (.pointer (some ⟨mb, 0, none⟩))
  c1 : w.cell? ⟨pb, po + 1, none⟩ = some (.bool s.keeps)
  c2 : w.cell? ⟨pb, po + 2, none⟩ = some t
  c3 : w.cell? ⟨pb, po + 3, none⟩ = some (.int .i64 (s.place : Int))
  c4 : w.cell? ⟨pb, po + 4, none⟩ = some (.int .i64 s.noted)
  c5 : w.cell? ⟨pb, po + 5, none⟩ = some (.bool s.spent)
  c6 : w.cell? ⟨pb, po + 6, none⟩ = some (.bool s.halted)
/-- A port in the program's memory: its cells, and the row of what it was told (of blocks from B on). -/
structure PAt (B : Nat) (w : World) (pb po mb : Nat) (t : Value) (s : Pt) : Prop where
  cells : PCells w pb po mb t s
  fz : ∀ i, w.frozen? ⟨pb, i, none⟩ = false
  own : w.ownsRow B 107 4 t s.told.length (tRow s.told)
  ne : t.ownBlock ≠ some pb
  ext : ∀ i, (i < po ∨ po + 7 ≤ i) → w.cell? ⟨pb, i, none⟩ = s.ext i
theorem PAt.lt {B : Nat} {w : World} {pb po mb : Nat} {t : Value} {s : Pt} (h : PAt B w pb po mb t s) : pb < w.heap.size := World.block_lt_of_cell? w _ h.cells.c0
theorem PAt.same {B : Nat} {w w' : World} {pb po mb : Nat} {t : Value} {s : Pt} (h : PAt B w pb po mb t s) (h1 : w'.heap[pb]? = w.heap[pb]?) (h2 : ∀ k, t.ownBlock = some k → w'.heap[k]? = w.heap[k]?) : PAt B w' pb po mb t s := by
  have k1 : ∀ i, w'.cell? ⟨pb, i, none⟩ = w.cell? ⟨pb, i, none⟩ := fun i => World.cell?_of_block (w := w) h1
  refine ⟨⟨by rw [k1]; exact h.cells.c0, by rw [k1]; exact h.cells.c1, by rw [k1]; exact h.cells.c2, by rw [k1]; exact h.cells.c3, by rw [k1]; exact h.cells.c4, by rw [k1]; exact h.cells.c5, by rw [k1]; exact h.cells.c6⟩, fun i => ?_, ?_, h.ne, fun i hi => by rw [k1]; exact h.ext i hi⟩
  · rw [World.frozen?_of_block (w := w) (a := ⟨pb, i, none⟩) h1]; exact h.fz i
  · refine ⟨h.own.1, h.own.2.imp id ?_⟩
    rintro ⟨g, cap, cur, e, r⟩
    exact ⟨g, cap, cur, e, r.1, by rw [h2 g (by rw [e]; rfl)]; exact r.2.1, r.2.2⟩
theorem PAt.below {B : Nat} {w w' : World} {pb po mb : Nat} {t : Value} {s : Pt} (h : PAt B w pb po mb t s) (hb : Below w.heap.size w w') : PAt B w' pb po mb t s :=
  h.same (hb.block _ h.lt) fun k hk => hb.block k (World.ownsRow.lt h.own k hk).2
/-- What the row holds. -/
theorem PAt.see {B : Nat} {w : World} {pb po mb : Nat} {t : Value} {s : Pt} (h : PAt B w pb po mb t s) {i : Nat} {x : An} (hx : s.told[i]? = some x) :
    ∃ g cap, t = .slice (some ⟨g, 0, none⟩) s.told.length cap ∧ g ≠ pb ∧ B ≤ g ∧ g < w.heap.size ∧ w.cell? ⟨g, i * 4, none⟩ = some x.held.v ∧ w.cell? ⟨g, i * 4 + 1, none⟩ = some (.int .i64 x.n) ∧ w.cell? ⟨g, i * 4 + 2, none⟩ = some (.bool x.ok) ∧ w.cell? ⟨g, i * 4 + 3, none⟩ = some (.int .i64 x.err) := by
  obtain ⟨hi, hxe⟩ := List.getElem?_eq_some_iff.1 hx
  rcases h.own.2 with ⟨_, e⟩ | ⟨g, cap, cur, e, hB, hh, _⟩
  · omega
  · have hc : ∀ j v, j < 4 → (x.row)[j]? = some v → w.cell? ⟨g, i * 4 + j, none⟩ = some v := fun j v hj hv => by
      have h1 := tRow_get s.told i hi j hj
      rw [hxe, hv] at h1
      have := World.ownsRow.cells h.own (g := g) (by rw [e]; rfl) (i * 4 + j) v h1
      rw [add_off, Nat.zero_add] at this
      exact this
    have hne := h.ne
    rw [e] at hne
    have hl := World.ownsRow.lt h.own g (by rw [e]; rfl)
    exact ⟨g, cap, e, fun e2 => hne (by rw [e2]; rfl), hB, hl.2, hc 0 _ (by decide) rfl, hc 1 _ (by decide) rfl, hc 2 _ (by decide) rfl, hc 3 _ (by decide) rfl⟩
/-- A store into a port's cells. -/
theorem PAt.set {B : Nat} {w : World} {pb po mb : Nat} {t : Value} {s s' : Pt} (h : PAt B w pb po mb t s) {i : Nat} {u : Value} (hc : PCells (w.setCell ⟨pb, i, none⟩ u) pb po mb t s') (hk : s'.told = s.told) (he : s'.ext = s.ext) (hi : po ≤ i ∧ i < po + 7) : PAt B (w.setCell ⟨pb, i, none⟩ u) pb po mb t s' := by
  refine ⟨hc, fun j => by rw [World.frozen?_setCell]; exact h.fz j, ?_, h.ne, fun j hj => ?_⟩
  rotate_left
  · rw [he, ← h.ext j hj]
    exact World.cell?_setCell_other w ⟨pb, i, none⟩ ⟨pb, j, none⟩ u (by simp only [ne_eq, Addr.mk.injEq, not_and]; intro _ e; omega)
  rw [hk]
  refine ⟨h.own.1, h.own.2.imp id ?_⟩
  rintro ⟨g, cap, cur, e, r⟩
  refine ⟨g, cap, cur, e, r.1, ?_, r.2.2⟩
  have : g ≠ pb := fun e2 => h.ne (by rw [e, e2]; rfl)
  rw [Below.heap_setCell _ _ _ _ this]; exact r.2.1
/-- A store into another cell of a port's block. -/
theorem PAt.put {B : Nat} {w : World} {pb po mb : Nat} {t : Value} {s : Pt} (h : PAt B w pb po mb t s) {i : Nat} {x : Value} (u : Value) (hx : s.ext i = some x) (hi : i < po ∨ po + 7 ≤ i) : PAt B (w.setCell ⟨pb, i, none⟩ u) pb po mb t { s with ext := fun j => if j = i then some u else s.ext j } := by
  have c := h.cells
  refine ⟨⟨set_other c.c0 (by omega), set_other c.c1 (by omega), set_other c.c2 (by omega), set_other c.c3 (by omega), set_other c.c4 (by omega), set_other c.c5 (by omega), set_other c.c6 (by omega)⟩, fun j => by rw [World.frozen?_setCell]; exact h.fz j, ?_, h.ne, fun j hj => ?_⟩
  · refine ⟨h.own.1, h.own.2.imp id ?_⟩
    rintro ⟨g, cap, cur, e, r⟩
    refine ⟨g, cap, cur, e, r.1, ?_, r.2.2⟩
    have : g ≠ pb := fun e2 => h.ne (by rw [e, e2]; rfl)
    rw [Below.heap_setCell _ _ _ _ this]; exact r.2.1
  · by_cases e : j = i
    · subst e
      show _ = if j = j then some u else s.ext j
      rw [if_pos rfl]
      exact set_same ((h.ext j hi).trans hx)
    · show _ = if j = i then some u else s.ext j
      rw [if_neg e, ← h.ext j hj]
      exact World.cell?_setCell_other w ⟨pb, i, none⟩ ⟨pb, j, none⟩ u (by simp only [ne_eq, Addr.mk.injEq, not_and]; intro _ e2; omega)
/-- The row is given up. -/
theorem PAt.forget {B : Nat} {w : World} {pb po mb : Nat} {t : Value} {s : Pt} (h : PAt B w pb po mb t s) : PAt B (w.setCell ⟨pb, po + 2, none⟩ (.slice none 0 0)) pb po mb (.slice none 0 0) { s with told := [] } := by
  have c := h.cells
  refine ⟨⟨set_other c.c0 (by omega), set_other c.c1 (by omega), set_same c.c2, set_other c.c3 (by omega), set_other c.c4 (by omega), set_other c.c5 (by omega), set_other c.c6 (by omega)⟩, fun j => by rw [World.frozen?_setCell]; exact h.fz j, World.ownsRow_nil _ _ _ _, fun e => (by cases e), fun j hj => ?_⟩
  rw [← h.ext j hj]
  exact World.cell?_setCell_other w ⟨pb, po + 2, none⟩ ⟨pb, j, none⟩ _ (by simp only [ne_eq, Addr.mk.injEq, not_and]; intro _ e2; omega)
section
variable {w : World} {pb po mb : Nat} {t : Value} {s : Pt}
theorem PCells.put3 (h : PCells w pb po mb t s) (k : Nat) : PCells (w.setCell ⟨pb, po + 3, none⟩ (.int .i64 (k : Int))) pb po mb t { s with place := k } :=
  ⟨set_other h.c0 (by omega), set_other h.c1 (by omega), set_other h.c2 (by omega), set_same h.c3, set_other h.c4 (by omega), set_other h.c5 (by omega), set_other h.c6 (by omega)⟩
theorem PCells.put4 (h : PCells w pb po mb t s) (k : Int) : PCells (w.setCell ⟨pb, po + 4, none⟩ (.int .i64 k)) pb po mb t { s with noted := k } :=
  ⟨set_other h.c0 (by omega), set_other h.c1 (by omega), set_other h.c2 (by omega), set_other h.c3 (by omega), set_same h.c4, set_other h.c5 (by omega), set_other h.c6 (by omega)⟩
theorem PCells.put5 (h : PCells w pb po mb t s) (k : Bool) : PCells (w.setCell ⟨pb, po + 5, none⟩ (.bool k)) pb po mb t { s with spent := k } :=
  ⟨set_other h.c0 (by omega), set_other h.c1 (by omega), set_other h.c2 (by omega), set_other h.c3 (by omega), set_other h.c4 (by omega), set_same h.c5, set_other h.c6 (by omega)⟩
theorem PCells.put6 (h : PCells w pb po mb t s) (k : Bool) : PCells (w.setCell ⟨pb, po + 6, none⟩ (.bool k)) pb po mb t { s with halted := k } :=
  ⟨set_other h.c0 (by omega), set_other h.c1 (by omega), set_other h.c2 (by omega), set_other h.c3 (by omega), set_other h.c4 (by omega), set_other h.c5 (by omega), set_same h.c6⟩
theorem PCells.put2 (h : PCells w pb po mb t s) (u : Value) (l : List An) : PCells (w.setCell ⟨pb, po + 2, none⟩ u) pb po mb u { s with told := l } :=
  ⟨set_other h.c0 (by omega), set_other h.c1 (by omega), set_same h.c2, set_other h.c3 (by omega), set_other h.c4 (by omega), set_other h.c5 (by omega), set_other h.c6 (by omega)⟩
end

/-- All but a port's block is as it was. -/
structure But (pb : Nat) (w w' : World) : Prop where
  os : w'.os = w.os
  tape : w'.tape = w.tape
  output : w'.output = w.output
  size : w.heap.size ≤ w'.heap.size
  block : ∀ k, k < w.heap.size → k ≠ pb → w'.heap[k]? = w.heap[k]?
theorem But.refl (pb : Nat) (w : World) : But pb w w := ⟨rfl, rfl, rfl, Nat.le_refl _, fun _ _ _ => rfl⟩
theorem But.trans {pb : Nat} {w1 w2 w3 : World} (h : But pb w1 w2) (k : But pb w2 w3) : But pb w1 w3 :=
  ⟨k.os.trans h.os, k.tape.trans h.tape, k.output.trans h.output, Nat.le_trans h.size k.size, fun i hi hb => (k.block i (Nat.lt_of_lt_of_le hi h.size) hb).trans (h.block i hi hb)⟩
theorem But.of {pb : Nat} {w w' : World} (h : Below w.heap.size w w') : But pb w w' := ⟨h.os, h.tape, h.output, h.size, fun k hk _ => h.block k hk⟩
theorem But.set {pb : Nat} {w w' : World} (h : But pb w w') (i : Nat) (u : Value) : But pb w (w'.setCell ⟨pb, i, none⟩ u) :=
  h.trans ⟨rfl, rfl, rfl, by simp [World.setCell], fun k _ hb => Below.heap_setCell _ _ _ _ hb⟩
theorem But.drew {pb : Nat} {w w' : World} (h : But pb w w') : But pb w w'.drew := h.trans (But.of (Below.refl _ _).drew)

theorem below_drewN (w : World) (n : Nat) {B : Nat} : Below B w (w.drewN n) := by
  induction n with
  | zero => exact Below.refl _ _
  | succ n ih => exact ih.drew
/-- A port that may ask no more panics so. -/
def Halt (pb po : Nat) : Ending := .panicked [{ v := .iface 126 (.agg #[.pointer (some ⟨pb, po, none⟩)]), recovered := false }]
section
variable {B : Nat} {w : World} {pb po mb : Nat} {t : Value} {s : Pt}
theorem again_told (h : PAt B w pb po mb t s) (hi : s.place < s.told.length) (hl : s.told.length ≤ 1000000) :
    Calls Tryd.prog 52 #[.pointer (some ⟨pb, po, none⟩)] w fun e w' => (∃ g cap, t = .slice (some ⟨g, 0, none⟩) s.told.length cap ∧ e = .returned (.pointer (some ⟨g, s.place * 4, none⟩))) ∧ PAt B w' pb po mb t { s with place := s.place + 1 } ∧ But pb w w' := by
  obtain ⟨g, cap, ht, -, -, -, -⟩ := h.see (List.getElem?_eq_getElem hi)
  subst ht
  have c2 := h.cells.c2
  have c3 := h.cells.c3
  have fz := h.fz
  have HP := Lib.hid (fun n1 n2 => (let h1 := h.below (below_drewN w n1); (h1.set (h1.cells.put3 (s.place + 1)) rfl rfl (by omega)).below (below_drewN _ n2)))
  have HK := Lib.hid (fun n1 n2 => ((But.of (pb := pb) (below_drewN w n1)).set (po + 3) (.int .i64 ((s.place + 1 : Nat) : Int))).trans (But.of (below_drewN _ n2)))
  rw [show ((s.place + 1 : Nat) : Int) = (s.place : Int) + 1 by omega] at HP HK
  have i1 : (s.place : Int) < (s.told.length : Int) := by omega
  have hl2 : (s.told.length : Int) ≤ 1000000 := by omega
  clear h
  generalize s.told.length = n at *
  generalize s.place = p at *
  go_enter Tryd.func52, Tryd.ntmps52
  go_wp2_with fail
  go_quiet (fail)
  go_wp2_with fail
  go_quiet (fail)
  go_wp2
  go_ret
  exact ⟨⟨_, _, rfl, rfl⟩, HP.out _ _, HK.out _ _⟩
theorem again_halt (h : PAt B w pb po mb t s) (hi : s.place = s.told.length) (hs : s.spent = true) (hl : s.told.length ≤ 1000000) :
    Calls Tryd.prog 52 #[.pointer (some ⟨pb, po, none⟩)] w fun e w' => e = Halt pb po ∧ PAt B w' pb po mb t { s with halted := true } ∧ But pb w w' := by
  obtain ⟨a, cap, ht⟩ : ∃ a cap, t = .slice a s.told.length cap := by
    rcases h.own.2 with ⟨e, e2⟩ | ⟨g, cap, cur, e, _⟩
    · exact ⟨none, 0, by rw [e, e2]⟩
    · exact ⟨_, _, e⟩
  subst ht
  have c2 := h.cells.c2
  have c3 := h.cells.c3
  have c5 := h.cells.c5
  have c6 := h.cells.c6
  rw [hs] at c5
  have fz := h.fz
  have HP := Lib.hid (fun n1 => (let h1 := h.below (below_drewN w n1); (h1.set (h1.cells.put6 true) rfl rfl (by omega))))
  have HK := Lib.hid (fun n1 => ((But.of (pb := pb) (below_drewN w n1)).set (po + 6) (.bool true)))
  rw [hi] at c3
  have i1 : ¬ (s.told.length : Int) < (s.told.length : Int) := by omega
  have hl2 : (s.told.length : Int) ≤ 1000000 := by omega
  clear h
  generalize s.told.length = n at *
  unfold Halt
  go_enter Tryd.func52, Tryd.ntmps52
  go_wp2_with fail
  go_quiet (fail)
  go_wp2
  exact ⟨rfl, rfl, HP.out _, HK.out _⟩
theorem again_ask (h : PAt B w pb po mb t s) (hi : s.place = s.told.length) (hs : s.spent = false) (hl : s.told.length ≤ 1000000) :
    Calls Tryd.prog 52 #[.pointer (some ⟨pb, po, none⟩)] w fun e w' => e = .returned (.pointer none) ∧ Below w.heap.size w w' := by
  obtain ⟨a, cap, ht⟩ : ∃ a cap, t = .slice a s.told.length cap := by
    rcases h.own.2 with ⟨e, e2⟩ | ⟨g, cap, cur, e, _⟩
    · exact ⟨none, 0, by rw [e, e2]⟩
    · exact ⟨_, _, e⟩
  subst ht
  have c2 := h.cells.c2
  have c3 := h.cells.c3
  have c5 := h.cells.c5
  rw [hs] at c5
  rw [hi] at c3
  have i1 : ¬ (s.told.length : Int) < (s.told.length : Int) := by omega
  have hl2 : (s.told.length : Int) ≤ 1000000 := by omega
  clear h
  generalize s.told.length = n at *
  go_enter Tryd.func52, Tryd.ntmps52
  go_wp2_with fail
  go_quiet (fail)
  go_wp2
  go_ret
  exact ⟨rfl, below_drewN _ _⟩
end
end Go.Proofs.YtibimnibmengpaaDoor
/- What keep makes of a port. Conditions: at most 1000000 answers. -/
namespace Go.Proofs.YtibimnibmengpaaDoor
open Go.RowKit Go.Op
set_option maxRecDepth 100000

/-- All but a port's block and its row's is as it was. -/
structure But2 (pb : Nat) (t : Value) (w w' : World) : Prop where
  os : w'.os = w.os
  tape : w'.tape = w.tape
  output : w'.output = w.output
  size : w.heap.size ≤ w'.heap.size
  block : ∀ k, k < w.heap.size → k ≠ pb → some k ≠ t.ownBlock → w'.heap[k]? = w.heap[k]?
theorem But2.of {pb : Nat} {t : Value} {w w' : World} (h : Below w.heap.size w w') : But2 pb t w w' := ⟨h.os, h.tape, h.output, h.size, fun k hk _ _ => h.block k hk⟩
theorem But2.trans {pb : Nat} {t : Value} {w1 w2 w3 : World} (h : But2 pb t w1 w2) (k : But2 pb t w2 w3) : But2 pb t w1 w3 :=
  ⟨k.os.trans h.os, k.tape.trans h.tape, k.output.trans h.output, Nat.le_trans h.size k.size, fun i hi hb ht => (k.block i (Nat.lt_of_lt_of_le hi h.size) hb ht).trans (h.block i hi hb ht)⟩
theorem But2.set {pb : Nat} {t : Value} {w w' : World} (h : But2 pb t w w') (i : Nat) (u : Value) : But2 pb t w (w'.setCell ⟨pb, i, none⟩ u) :=
  h.trans ⟨rfl, rfl, rfl, by simp [World.setCell], fun k _ hb _ => Below.heap_setCell _ _ _ _ hb⟩
/-- A row that is the old one's block, or a new one, or none. -/
def Row2 (w : World) (t t' : Value) : Prop := ∀ k, t'.ownBlock = some k → t.ownBlock = some k ∨ w.heap.size ≤ k
theorem Row2.from {w w1 : World} {t t' : Value} (h : Row2 w1 t t') (hs : w.heap.size ≤ w1.heap.size) : Row2 w t t' := fun k hk => (h k hk).imp id fun h2 => Nat.le_trans hs h2

theorem info94 : (Tryd.prog.info? 107).map (fun i => (i.zero, i.size, i.bytes)) = some (some (.agg #[.nilIface, .int .i64 0, .bool false, .int .i64 0]), 4, 40) := by kernel_rfl
theorem size94 : (Tryd.prog.info? 107).map (·.size) = some 4 := by kernel_rfl
theorem load_65 {w : World} {p : Addr} {v : Value} (h : w.cell? p = some v) : (Instr.loadAt 92 (.pointer (some p))).run Tryd.prog w = .ok v w := by go_simp
theorem store_65 {w : World} {b i : Nat} {u : Value} {a : Option Addr} {n c : Nat} (h : w.cell? ⟨b, i, none⟩ = some u) (hf : w.frozen? ⟨b, i, none⟩ = false) : (Instr.storeAt 92 (.pointer (some ⟨b, i, none⟩)) (.slice a n c)).run Tryd.prog w = .ok () (w.setCell ⟨b, i, none⟩ (.slice a n c)) := by go_simp
theorem load_94 {w : World} {b o : Nat} {a : An} (h : w.rangeAt b o a.row) : (Instr.loadAt 107 (.pointer (some ⟨b, o, none⟩))).run Tryd.prog w = .ok a.v w :=
  run_loadAt_mid w b o 107 a.row _ h Tryd.underlying107 rfl size94
theorem row_94 (a : An) (w : World) : (Instr.buildSlice 92 1 #[(0, a.v)]).run Tryd.prog w = .ok (.slice (some ⟨w.heap.size, 0, none⟩) 1 1) (w.alloc (.cells a.row.toArray 107)) := by
  obtain ⟨h, n, o, e⟩ := a
  cases h <;> kernel_rfl
section
variable {B : Nat} {w : World} {pb po mb : Nat} {t : Value} {s : Pt} {a : An}
/-- Behind the append: the row has one answer more. -/
structure KApp (B : Nat) (w : World) (pb po mb : Nat) (t : Value) (s : Pt) (a : An) (t' : Value) (W : World) : Prop where
  own : W.ownsRow B 107 4 t' (s.told.length + 1) (tRow (s.told ++ [a]))
  but : But2 pb t w W
  cells : PCells W pb po mb t s
  fz : ∀ i, W.frozen? ⟨pb, i, none⟩ = false
  row : Row2 w t t'
  ne : t'.ownBlock ≠ some pb
  ext : ∀ i, (i < po ∨ po + 7 ≤ i) → W.cell? ⟨pb, i, none⟩ = s.ext i
/-- Within keep's second region. -/
structure KMid (B : Nat) (w : World) (pb po mb : Nat) (t : Value) (s : Pt) (a : An) (bs : List Bool) (β : Nat → Value) (W : World) : Prop where
  a0 : bs[1]? = some false → bs[2]? = some false → Below w.heap.size w W
  a1 : bs[0]? = some true → bs[1]? = some false → bs[2]? = some false → ∃ g, β 6 = .slice (some ⟨g, 0, none⟩) 1 1 ∧ W.rangeAt g 0 a.row
  a2 : bs[1]? = some true → bs[2]? = some false → KApp B w pb po mb t s a (β 7) W
  a3 : bs[2]? = some true → ∃ t', PAt B W pb po mb t' { s with told := s.told ++ [a] } ∧ But2 pb t w W ∧ Row2 w t t'
theorem kmid_start {β : Nat → Value} : KMid B w pb po mb t s a [false, false, false] β w.drew :=
  ⟨fun _ _ => (Below.refl _ _).drew, fun e => (by cases e), fun e => (by cases e), fun e => (by cases e)⟩
variable {bs : List Bool} {β : Nat → Value} {W : World}
theorem set_at {p : Nat} (h : bs[p]? = some false) : (bs.set p true)[p]? = some true := List.getElem?_set_self (List.getElem?_eq_some_iff.1 h).1
theorem kmid_row (h : KMid B w pb po mb t s a bs β W) (h1 : bs[1]? = some false) (h2 : bs[2]? = some false) :
    ∃ u w', (Instr.buildSlice 92 1 #[(0, a.v)]).run Tryd.prog W = .ok u w' ∧ KMid B w pb po mb t s a (bs.set 0 true) (FreeV.upd β 6 u) w' := by
  have hb := h.a0 h1 h2
  refine ⟨_, _, row_94 a W, ⟨fun _ _ => hb.alloc hb.size _, fun _ _ _ => ⟨W.heap.size, by simp [FreeV.upd], ?_⟩, fun e => ?_, fun e => ?_⟩⟩
  · intro j v hj
    rw [World.cell?_alloc_new, Nat.zero_add]
    simpa using hj
  · simp [h1] at e
  · simp [h2] at e
theorem kmid_app (hP : PAt B w pb po mb t s) (hB : B ≤ w.heap.size) (hl : s.told.length ≤ 1000000) (h : KMid B w pb po mb t s a bs β W) (h0 : bs[0]? = some true) (h1 : bs[1]? = some false) (h2 : bs[2]? = some false) (ty : TypeId) :
    ∃ u w', (Builtin.append_ #[92, 92] ty #[t, β 6]).run Tryd.prog W = .ok u w' ∧ KMid B w pb po mb t s a (bs.set 1 true) (FreeV.upd β 7 u) w' := by
  have hb := h.a0 h1 h2
  obtain ⟨g, e6, hg⟩ := h.a1 h0 h1 h2
  have hW := hP.below hb
  obtain ⟨i0, hi, hz0, hz1, hz2⟩ := info_parts info94
  obtain ⟨v', w', hr, ho, hgr, _, hn⟩ := run_append_own_at W B 92 ty 107 i0 _ 4 40 Tryd.underlying92 hi hz0 hz1 hz2 rfl (by decide) t _ _ hW.own ⟨g, 0, none⟩ 1 1 a.row rfl
    (fun j u hu => by rw [add_off]; exact hg j u hu) (fun u hu => t_one (l := [a]) u (by simpa [tRow] using hu)) (by unfold maxLen; omega) (by omega) (Nat.le_trans hB hb.size)
  rw [e6]
  have hbut : But2 pb t w w' := (But2.of hb).trans ⟨hgr.os, hgr.tape, hgr.output, hgr.size, fun k hk _ ht => hgr.block k hk ht⟩
  have hpb : w'.heap[pb]? = W.heap[pb]? := hgr.block pb hW.lt (fun e => hP.ne e.symm)
  have k1 : ∀ i, w'.cell? ⟨pb, i, none⟩ = W.cell? ⟨pb, i, none⟩ := fun i => World.cell?_of_block (w := W) hpb
  refine ⟨v', w', hr, ⟨fun e => ?_, fun _ e => ?_, fun _ _ => ⟨?_, hbut, ?_, fun i => ?_, ?_, ?_, fun i hi => by rw [k1]; exact hW.ext i hi⟩, fun e => ?_⟩⟩
  · rw [set_at h1] at e
    cases e
  · rw [set_at h1] at e
    cases e
  · simp only [FreeV.upd, if_true]
    rw [show tRow (s.told ++ [a]) = tRow s.told ++ a.row by simp [tRow]]
    exact ho
  · have c := hW.cells
    exact ⟨by rw [k1]; exact c.c0, by rw [k1]; exact c.c1, by rw [k1]; exact c.c2, by rw [k1]; exact c.c3, by rw [k1]; exact c.c4, by rw [k1]; exact c.c5, by rw [k1]; exact c.c6⟩
  · rw [World.frozen?_of_block (w := W) (a := ⟨pb, i, none⟩) hpb]; exact hW.fz i
  · simp only [FreeV.upd, if_true]
    intro k hk
    rcases hn with e | e
    · rw [e] at hk; exact .inl hk
    · rw [e] at hk; cases hk; exact .inr hb.size
  · simp only [FreeV.upd, if_true]
    have := hW.lt
    rcases hn with e | e
    · rw [e]; exact hP.ne
    · rw [e]; intro e2; cases e2; omega
  · simp [h2] at e
theorem kmid_store (h : KMid B w pb po mb t s a bs β W) (h1 : bs[1]? = some true) (h2 : bs[2]? = some false) :
    ∃ w', (Instr.storeAt 92 (.pointer (some ⟨pb, po + 2, none⟩)) (β 7)).run Tryd.prog W = .ok () w' ∧ KMid B w pb po mb t s a (bs.set 2 true) β w' := by
  obtain ⟨ho, hb, hc, hf, hr, hn, hx⟩ := h.a2 h1 h2
  obtain ⟨sa, sn, sc, es⟩ : ∃ sa sn sc, β 7 = .slice sa sn sc := by
    rcases ho.2 with ⟨e, _⟩ | ⟨g, cap, cur, e, _⟩
    · exact ⟨_, _, _, e⟩
    · exact ⟨_, _, _, e⟩
  rw [es] at ho hr hn ⊢
  refine ⟨_, store_65 hc.c2 (hf _), ⟨fun _ e => ?_, fun _ _ e => ?_, fun _ e => ?_, fun _ => ⟨_, ⟨hc.put2 _ _, fun i => by rw [World.frozen?_setCell]; exact hf i, ?_, hn, fun j hj => by
    rw [← hx j hj]
    exact World.cell?_setCell_other W ⟨pb, po + 2, none⟩ ⟨pb, j, none⟩ _ (by simp only [ne_eq, Addr.mk.injEq, not_and]; intro _ e; omega)⟩, hb.set _ _, hr⟩⟩⟩
  · rw [set_at h2] at e
    cases e
  · rw [set_at h2] at e
    cases e
  · rw [set_at h2] at e
    cases e
  · refine ⟨by simpa using ho.1, ho.2.imp (fun e => ⟨e.1, by have := e.2; omega⟩) ?_⟩
    rintro ⟨g, cap, cur, e, r⟩
    have : g ≠ pb := fun e2 => hn (by rw [e, e2]; rfl)
    refine ⟨g, cap, cur, by simpa using e, r.1, ?_, by simpa using r.2.2⟩
    rw [Below.heap_setCell _ _ _ _ this]; exact r.2.1
/-- Behind keep. -/
def Kept2 (B : Nat) (w : World) (pb po mb : Nat) (t : Value) (s' : Pt) (w' : World) : Prop := ∃ t', PAt B w' pb po mb t' s' ∧ But2 pb t w w' ∧ Row2 w t t'

theorem keep_yes (h : PAt B w pb po mb t s) (hk : s.keeps = true) (hl : s.told.length ≤ 1000000) (hp : s.place ≤ 1000000) (hB : B ≤ w.heap.size) :
    Calls Tryd.prog 54 #[.pointer (some ⟨pb, po, none⟩), a.v] w fun e w' => e = .returned (.tuple #[]) ∧ Kept2 B w pb po mb t { s with told := s.told ++ [a], place := s.place + 1, spent := true } w' := by
  have fz := h.fz
  have ea : a.v = .agg #[a.held.v, .int .i64 a.n, .bool a.ok, .int .i64 a.err] := rfl
  obtain ⟨w1, hw1⟩ : ∃ W, W = w.alloc (.cells #[a.held.v, .int .i64 a.n, .bool a.ok, .int .i64 a.err] 107) := ⟨_, rfl⟩
  have hb1 : Below w.heap.size w w1 := by rw [hw1]; exact (Below.refl _ _).alloc (Nat.le_refl _) _
  have h1 := h.below hb1
  have c1 := h1.cells.c1
  rw [hk] at c1
  have hr : w1.rangeAt w.heap.size 0 a.row := fun j v hj => by
    have hj2 : ([a.held.v, .int .i64 a.n, .bool a.ok, .int .i64 a.err] : List Value)[j]? = some v := hj
    rw [hw1, World.cell?_alloc_new, Nat.zero_add]
    simpa using hj2
  have hq : w.heap.size < w1.heap.size := by rw [hw1]; simp
  have HB := Lib.hid (⟨hr, Nat.le_trans hB hb1.size, hq⟩ : w1.rangeAt w.heap.size 0 a.row ∧ B ≤ w1.heap.size ∧ w.heap.size < w1.heap.size)
  have HP := Lib.hid h1
  have HW := Lib.hid hw1.symm
  have HB2 := Lib.hid (But2.of hb1 : But2 pb t w w1)
  have HR : Hid (∀ t1, Row2 w1 t t1 → Row2 w t t1) := fun t1 h => h.from hb1.size
  clear h hb1 h1 hr hq hw1 hk hB
  generalize w.heap.size = q at *
  rw [ea]
  go_enter Tryd.func54, Tryd.ntmps54
  go_wp2_with (first | rw [HW.out] | fail)
  refine FreeV.region_puts (S := KMid B w1 pb po mb t s a) (effs := [6, 7, 10])
    (tab := [⟨2, fun _ => [.pointer (some ⟨pb, po, none⟩)], fun _ => .pointer (some ⟨pb, po, none⟩), .pure⟩,
      ⟨4, fun _ => [.pointer (some ⟨pb, po + 2, none⟩)], fun _ => t, .read⟩,
      ⟨5, fun _ => [.pointer (some ⟨q, 0, none⟩)], fun _ => a.v, .read⟩,
      ⟨6, fun _ => [a.v], fun β => (β 6), .eff⟩,
      ⟨7, fun β => [t, (β 6)], fun β => (β 7), .eff⟩,
      ⟨8, fun _ => [.pointer (some ⟨pb, po, none⟩)], fun _ => .pointer (some ⟨pb, po, none⟩), .pure⟩,
      ⟨10, fun β => [.pointer (some ⟨pb, po + 2, none⟩), (β 7)], fun _ => undef, .put⟩])
    (vs := [([], fun _ => .pointer (some ⟨pb, po, none⟩)), ([], fun _ => .pointer (some ⟨pb, po, none⟩)), ([], fun _ => .pointer (some ⟨pb, po, none⟩)), ([], fun _ => .pointer (some ⟨pb, po + 2, none⟩)), ([], fun _ => t), ([], fun _ => a.v), ([6], fun l => l.headD undef), ([7], fun l => l.headD undef), ([], fun _ => .pointer (some ⟨pb, po, none⟩)), ([], fun _ => .pointer (some ⟨pb, po + 2, none⟩)), ([], fun _ => undef)])
    (by kernel_rfl) ⟨by kernel_rfl, ⟨FreeV.d_nil _ rfl rfl,
      FreeV.d_load _ rfl rfl (fun β bs w h hd => load_65 ((HP.out.below (h.a0 ((hd 1 7 rfl).2 (.inl (by kernel_rfl))) ((hd 2 10 rfl).2 (.inl (by kernel_rfl))))).cells.c2)),
      FreeV.d_load _ rfl rfl (fun β bs w h hd => load_94 (fun j v hj => (((h.a0 ((hd 1 7 rfl).2 (.inl (by kernel_rfl))) ((hd 2 10 rfl).2 (.inl (by kernel_rfl))))).cell HB.out.2.2).trans (HB.out.1 j v hj))),
      FreeV.d_row1 _ rfl rfl 0 rfl (fun β bs w h hd => kmid_row h ((hd 1 7 rfl).2 (.inl (by kernel_rfl))) ((hd 2 10 rfl).2 (.inl (by kernel_rfl)))),
      FreeV.d_app _ rfl rfl 1 rfl (fun β bs ty w h hd => kmid_app HP.out HB.out.2.1 hl h ((hd 0 6 rfl).1 (by kernel_rfl)) ((hd 1 7 rfl).2 (.inr rfl)) ((hd 2 10 rfl).2 (.inl (by kernel_rfl))) ty),
      FreeV.d_nil _ rfl rfl,
      FreeV.d_store _ rfl rfl 2 rfl (fun β bs w h hd => kmid_store h ((hd 1 7 rfl).1 (by kernel_rfl)) ((hd 2 10 rfl).2 (.inr rfl))),
      trivial⟩,
      fun β => by kernel_rfl, fun β => by kernel_rfl, by kernel_rfl, fun β => by kernel_rfl, by kernel_rfl⟩ kmid_start (fun β => Free.from_ 8 [.pointer (some ⟨pb, po, none⟩), .pointer (some ⟨pb, po, none⟩), .pointer (some ⟨pb, po, none⟩), .pointer (some ⟨pb, po + 2, none⟩), t, a.v, (β 6), (β 7), .pointer (some ⟨pb, po, none⟩), .pointer (some ⟨pb, po + 2, none⟩)]) (fun β => by kernel_rfl) ?_
  intro β w4 h4
  obtain ⟨t1, p1, b1, r1⟩ := h4.a3 rfl
  clear h4
  rw [Free.puts_from _ _ _ (Nat.le_of_ble_eq_true rfl)]
  simp only [List.take_succ_cons, List.take_zero, List.drop_succ_cons, List.drop_zero, List.cons_append, List.nil_append, List.length_cons, List.length_nil, Nat.reduceAdd]
  have c3 := p1.cells.c3
  have c5 := p1.cells.c5
  have f1 := p1.fz
  have q3 := p1.set (p1.cells.put3 (s.place + 1)) rfl rfl (by omega)
  rw [show ((s.place + 1 : Nat) : Int) = (s.place : Int) + 1 by omega] at q3
  have HE := Lib.hid (q3.set (q3.cells.put5 true) rfl rfl (by omega))
  have HF := Lib.hid ((b1.set (po + 3) (.int .i64 ((s.place : Int) + 1))).set (po + 5) (.bool true))
  have R1 := Lib.hid r1
  have hp2 : (s.place : Int) ≤ 1000000 := by omega
  clear p1 b1 r1 q3
  go_wp2
  refine bodyPost_end (results_none rfl _ _ _) rfl ⟨rfl, t1, HE.out, HB2.out.trans HF.out, HR.out _ R1.out⟩
theorem keep_no (h : PAt B w pb po mb t s) (hk : s.keeps = false) :
    Calls Tryd.prog 54 #[.pointer (some ⟨pb, po, none⟩), a.v] w fun e w' => e = .returned (.tuple #[]) ∧ Below w.heap.size w w' := by
  have c1 := h.cells.c1
  rw [hk] at c1
  have hlt := h.lt
  have ea : a.v = .agg #[a.held.v, .int .i64 a.n, .bool a.ok, .int .i64 a.err] := rfl
  have h1 := h.below (w' := w.alloc (.cells #[a.held.v, .int .i64 a.n, .bool a.ok, .int .i64 a.err] 107)) ((Below.refl _ _).alloc (Nat.le_refl _) _)
  have c1 := h1.cells.c1
  rw [hk] at c1
  rw [ea]
  clear h h1
  go_enter Tryd.func54, Tryd.ntmps54
  go_wp2
  exact bodyPost_end (results_none rfl _ _ _) rfl ⟨rfl, (Below.refl _ _).alloc (Nat.le_refl _) _⟩
end
end Go.Proofs.YtibimnibmengpaaDoor
/- What a port's asks answer and make of memory and of the port: told again, stopped, or asked. Conditions: memory is the call's own; at most 1000000 asks. -/
namespace Go.Proofs.YtibimnibmengpaaDoor
open Go.RowKit Go.Op
set_option maxRecDepth 100000

theorem AtF.same {w w' : World} {b c r : Nat} {m : M} {F : List Bool} (h : AtF w b c r m F) (hs : w.heap.size ≤ w'.heap.size) (h1 : w'.heap[b]? = w.heap[b]?) (h2 : w'.heap[c]? = w.heap[c]?) (h3 : w'.heap[r]? = w.heap[r]?) : AtF w' b c r m F := by
  have k1 : ∀ i, w'.cell? ⟨b, i, none⟩ = w.cell? ⟨b, i, none⟩ := fun i => World.cell?_of_block (w := w) h1
  have k2 : ∀ i, w'.cell? ⟨c, i, none⟩ = w.cell? ⟨c, i, none⟩ := fun i => World.cell?_of_block (w := w) h2
  have k3 : ∀ i, w'.cell? ⟨r, i, none⟩ = w.cell? ⟨r, i, none⟩ := fun i => World.cell?_of_block (w := w) h3
  have o := h.own
  refine ⟨⟨Nat.lt_of_lt_of_le o.lb hs, Nat.lt_of_lt_of_le o.lc hs, Nat.lt_of_lt_of_le o.lr hs, o.bc, o.br, o.cr, fun i => ?_, fun i => ?_, fun i => ?_⟩, ⟨by rw [k1]; exact h.head.h0, by rw [k1]; exact h.head.h1, by rw [k1]; exact h.head.h2, by rw [k1]; exact h.head.h3, by rw [k1]; exact h.head.h4⟩, fun i x hx => ?_, fun j hj => ?_⟩
  · rw [World.frozen?_of_block (w := w) (a := ⟨b, i, none⟩) h1]; exact o.fb i
  · rw [World.frozen?_of_block (w := w) (a := ⟨c, i, none⟩) h2]; exact o.fc i
  · rw [World.frozen?_of_block (w := w) (a := ⟨r, i, none⟩) h3]; exact o.fr i
  · unfold CAt
    rw [k2, k2, k2, k2]; exact h.cl i x hx
  · rw [k3]; exact h.rw j hj
theorem Has.same {w0 w w' : World} {b c r : Nat} {N : Int} {m : M} (h : Has w0 b c r N w m) (hs : w.heap.size ≤ w'.heap.size) (hb : Below w0.heap.size w0 w') (h1 : w'.heap[b]? = w.heap[b]?) (h2 : w'.heap[c]? = w.heap[c]?) (h3 : w'.heap[r]? = w.heap[r]?) : Has w0 b c r N w' m :=
  ⟨AtF.same h.at_ hs h1 h2 h3, h.ok, hb, h.hb, h.hc, h.hr⟩

/-- All but memory's blocks, the port's, and its row's, is as it was. -/
structure But5 (b c r pb : Nat) (t : Value) (w w' : World) : Prop where
  os : w'.os = w.os
  tape : w'.tape = w.tape
  output : w'.output = w.output
  size : w.heap.size ≤ w'.heap.size
  block : ∀ k, k < w.heap.size → k ≠ b → k ≠ c → k ≠ r → k ≠ pb → some k ≠ t.ownBlock → w'.heap[k]? = w.heap[k]?
section
variable {b c r pb : Nat} {t t' : Value} {w w' w1 w2 w3 : World}
theorem But5.refl (b c r pb : Nat) (t : Value) (w : World) : But5 b c r pb t w w := ⟨rfl, rfl, rfl, Nat.le_refl _, fun _ _ _ _ _ _ _ => rfl⟩
theorem But5.of (h : Below w.heap.size w w') : But5 b c r pb t w w' := ⟨h.os, h.tape, h.output, h.size, fun k hk _ _ _ _ _ => h.block k hk⟩
theorem But5.of1 (h : But pb w w') : But5 b c r pb t w w' := ⟨h.os, h.tape, h.output, h.size, fun k hk _ _ _ hp _ => h.block k hk hp⟩
theorem But5.of2 (h : But2 pb t w w') : But5 b c r pb t w w' := ⟨h.os, h.tape, h.output, h.size, fun k hk _ _ _ hp ht => h.block k hk hp ht⟩
theorem But5.of3 (h : Kept b c r w w') : But5 b c r pb t w w' := ⟨h.os, h.tape, h.output, h.size, fun k hk h1 h2 h3 _ _ => h.block k hk h1 h2 h3⟩
theorem But5.trans (h : But5 b c r pb t w1 w2) (k : But5 b c r pb t w2 w3) : But5 b c r pb t w1 w3 :=
  ⟨k.os.trans h.os, k.tape.trans h.tape, k.output.trans h.output, Nat.le_trans h.size k.size, fun i hi h1 h2 h3 h4 h5 => (k.block i (Nat.lt_of_lt_of_le hi h.size) h1 h2 h3 h4 h5).trans (h.block i hi h1 h2 h3 h4 h5)⟩
theorem Row2.refl (w : World) (t : Value) : Row2 w t t := fun _ h => .inl h
theorem But5.next (h : But5 b c r pb t w1 w2) (hr : Row2 w1 t t') (k : But5 b c r pb t' w2 w3) : But5 b c r pb t w1 w3 :=
  ⟨k.os.trans h.os, k.tape.trans h.tape, k.output.trans h.output, Nat.le_trans h.size k.size, fun i hi h1 h2 h3 h4 h5 => (k.block i (Nat.lt_of_lt_of_le hi h.size) h1 h2 h3 h4 (fun e => by
    rcases hr i e.symm with e2 | e2
    · exact h5 e2.symm
    · omega)).trans (h.block i hi h1 h2 h3 h4 h5)⟩
theorem Row2.next {t'' : Value} (h : Row2 w1 t t') (hs : w1.heap.size ≤ w2.heap.size) (k : Row2 w2 t' t'') : Row2 w1 t t'' := by
  intro j hj
  rcases k j hj with e | e
  · exact h j e
  · exact .inr (Nat.le_trans hs e)
end
/-- A row in the program's memory. -/
structure Rw (w : World) (g : Nat) (l : List Value) : Prop where
  lt : g < w.heap.size
  at_ : ∀ i x, l[i]? = some x → w.cell? ⟨g, i, none⟩ = some x
theorem Rw.same {w w' : World} {g : Nat} {l : List Value} (h : Rw w g l) (hs : w.heap.size ≤ w'.heap.size) (hg : w'.heap[g]? = w.heap[g]?) : Rw w' g l := by
  have k : ∀ i, w'.cell? ⟨g, i, none⟩ = w.cell? ⟨g, i, none⟩ := fun i => World.cell?_of_block (w := w) hg
  refine ⟨Nat.lt_of_lt_of_le h.lt hs, fun i x hx => ?_⟩
  rw [k]; exact h.at_ i x hx
/-- Rows that nobody changes. -/
def RowsG (w0 : World) (b c r pb : Nat) (t : Value) (G : List (Nat × List Value)) (w : World) : Prop :=
  ∀ g l, (g, l) ∈ G → Rw w g l ∧ w0.heap.size ≤ g ∧ g ≠ b ∧ g ≠ c ∧ g ≠ r ∧ g ≠ pb ∧ t.ownBlock ≠ some g
theorem RowsG.step {w0 : World} {b c r pb : Nat} {t t' : Value} {G : List (Nat × List Value)} {w w' : World} (h : RowsG w0 b c r pb t G w) (hb : But5 b c r pb t w w') (hr : Row2 w t t') : RowsG w0 b c r pb t' G w' := by
  intro g l hg
  obtain ⟨h1, h2, h3, h4, h5, h6, h7⟩ := h g l hg
  refine ⟨h1.same hb.size (hb.block g h1.lt h3 h4 h5 h6 (fun e => h7 e.symm)), h2, h3, h4, h5, h6, fun e => ?_⟩
  rcases hr g e with e2 | e2
  · exact h7 e2
  · have := h1.lt
    omega
/-- A port and its memory, both of the call's own; rows of swaps that nobody changes. -/
structure Sys (w0 : World) (b c r : Nat) (N : Int) (G : List (Nat × List Value)) (pb po : Nat) (t : Value) (w : World) (m : M) (s : Pt) : Prop where
  has : Has w0 b c r N w m
  pt : PAt w0.heap.size w pb po b t s
  nb : pb ≠ b ∧ pb ≠ c ∧ pb ≠ r
  tb : t.ownBlock ≠ some b ∧ t.ownBlock ≠ some c ∧ t.ownBlock ≠ some r
  hp : w0.heap.size ≤ pb
  rows : RowsG w0 b c r pb t G w
section
variable {w0 : World} {b c r : Nat} {N : Int} {G : List (Nat × List Value)} {pb po : Nat} {t : Value} {w w' : World} {m m' : M} {s s' : Pt}
theorem Sys.port (h : Sys w0 b c r N G pb po t w m s) (hp : PAt w0.heap.size w' pb po b t s') (hb : But pb w w') : Sys w0 b c r N G pb po t w' m s' := by
  have o := h.has.at_.own
  refine ⟨h.has.same hb.size (h.has.below.trans ⟨hb.os, hb.tape, hb.output, hb.size, fun k hk => hb.block k (Nat.lt_of_lt_of_le hk h.has.below.size) (by have := h.hp; omega)⟩) ?_ ?_ ?_, hp, h.nb, h.tb, h.hp, h.rows.step (But5.of1 hb) (Row2.refl _ _)⟩
  · exact hb.block b o.lb (fun e => h.nb.1 e.symm)
  · exact hb.block c o.lc (fun e => h.nb.2.1 e.symm)
  · exact hb.block r o.lr (fun e => h.nb.2.2 e.symm)
theorem Sys.later (h : Sys w0 b c r N G pb po t w m s) (hb : Below w.heap.size w w') : Sys w0 b c r N G pb po t w' m s :=
  h.port (h.pt.below hb) (But.of hb)
theorem Sys.mem {N' : Int} (h : Sys w0 b c r N G pb po t w m s) (hh : Has w0 b c r N' w' m') (hk : Kept b c r w w') : Sys w0 b c r N' G pb po t w' m' s :=
  ⟨hh, h.pt.same (hk.block pb h.pt.lt h.nb.1 h.nb.2.1 h.nb.2.2) (fun k e => hk.block k (World.ownsRow.lt h.pt.own k e).2 (fun e2 => h.tb.1 (e2 ▸ e)) (fun e2 => h.tb.2.1 (e2 ▸ e)) (fun e2 => h.tb.2.2 (e2 ▸ e))), h.nb, h.tb, h.hp, h.rows.step (But5.of3 hk) (Row2.refl _ _)⟩
theorem Sys.keep {t' : Value} (h : Sys w0 b c r N G pb po t w m s) (hp : PAt w0.heap.size w' pb po b t' s') (hb : But2 pb t w w') (hr : Row2 w t t') : Sys w0 b c r N G pb po t' w' m s' := by
  have o := h.has.at_.own
  refine ⟨h.has.same hb.size (h.has.below.trans ⟨hb.os, hb.tape, hb.output, hb.size, fun k hk => hb.block k (Nat.lt_of_lt_of_le hk h.has.below.size) (by have := h.hp; omega) (fun e => ?_)⟩) ?_ ?_ ?_, hp, h.nb, ?_, h.hp, h.rows.step (But5.of2 hb) hr⟩
  · have := (World.ownsRow.lt h.pt.own k e.symm).1
    omega
  · exact hb.block b o.lb (fun e => h.nb.1 e.symm) (fun e => h.tb.1 e.symm)
  · exact hb.block c o.lc (fun e => h.nb.2.1 e.symm) (fun e => h.tb.2.1 e.symm)
  · exact hb.block r o.lr (fun e => h.nb.2.2 e.symm) (fun e => h.tb.2.2 e.symm)
  · have h1 := o.lb
    have h2 := o.lc
    have h3 := o.lr
    refine ⟨fun e2 => ?_, fun e2 => ?_, fun e2 => ?_⟩
    · rcases hr _ e2 with e | e
      · exact h.tb.1 e
      · omega
    · rcases hr _ e2 with e | e
      · exact h.tb.2.1 e
      · omega
    · rcases hr _ e2 with e | e
      · exact h.tb.2.2 e
      · omega
theorem Sys.less {N' : Int} (h : Sys w0 b c r N G pb po t w m s) (hN : N ≤ N') : Sys w0 b c r N' G pb po t w m s := ⟨h.has.less hN, h.pt, h.nb, h.tb, h.hp, h.rows⟩
end
/-- An ask, what memory answers to it and becomes, what the call answers. -/
inductive Qn where
  | alloc (x : Held)
  | load (h : Int)
  | word (h : Int)
  | store (h n : Int)
  | swap (h o n : Int)
  | free (h : Int)
  | retire (h s : Int)
  | reap (p b : Int)
def Qn.on : Qn → M → M × An
  | .alloc x, m => ((m.alloc x).1, ⟨.no, (m.alloc x).2.1, false, (m.alloc x).2.2⟩)
  | .load h, m => ((m.load h).1, ⟨(m.load h).2.1, 0, false, (m.load h).2.2⟩)
  | .word h, m => ((m.word h).1, ⟨.no, (m.word h).2.1, false, (m.word h).2.2⟩)
  | .store h n, m => ((m.store h n).1, ⟨.no, 0, false, (m.store h n).2⟩)
  | .swap h o n, m => ((m.swap h o n).1, ⟨.no, 0, (m.swap h o n).2.1, (m.swap h o n).2.2⟩)
  | .free h, m => ((m.free h).1, ⟨.no, 0, false, (m.free h).2⟩)
  | .retire h s, m => ((m.retire h s).1, ⟨.no, 0, false, (m.retire h s).2⟩)
  | .reap p b, m => ((m.reap p b).1, ⟨.no, 0, (m.reap p b).2.1, (m.reap p b).2.2⟩)
def Qn.ret : Qn → An → Value
  | .alloc _, a => .tuple #[.int .i64 a.n, .int .i64 a.err]
  | .word _, a => .tuple #[.int .i64 a.n, .int .i64 a.err]
  | .load _, a => .tuple #[a.held.v, .int .i64 a.err]
  | .swap _ _ _, a => .tuple #[.bool a.ok, .int .i64 a.err]
  | .store _ _, a => .int .i64 a.err
  | .free _, a => .int .i64 a.err
  | .retire _ _, a => .int .i64 a.err
  | .reap _ _, a => .tuple #[.bool a.ok, .int .i64 a.err]
/-- What a port makes of an ask: told again, stopped (no answer), or asked. -/
def Pt.ask (s : Pt) (q : Qn) (m : M) : Option An × Pt × M := match s.told[s.place]? with
  | some a => (some a, { s with place := s.place + 1 }, m)
  | none => if s.spent = true then (none, { s with halted := true }, m)
    else (some (q.on m).2, if s.keeps = true then { s with told := s.told ++ [(q.on m).2], place := s.place + 1, spent := true } else s, (q.on m).1)
/-- How a call of a port ends. -/
def Ends (pb po : Nat) (q : Qn) : Option An → Ending → Prop
  | some a, e => e = .returned (q.ret a)
  | none, e => e = Halt pb po
/-- Behind an ask. -/
def Asked (w0 : World) (b c r : Nat) (N : Int) (G : List (Nat × List Value)) (pb po : Nat) (t : Value) (w : World) (m : M) (s : Pt) (q : Qn) (e : Ending) (w' : World) : Prop :=
  ∃ t', Ends pb po q (s.ask q m).1 e ∧ Sys w0 b c r (N + 1) G pb po t' w' (s.ask q m).2.2 (s.ask q m).2.1 ∧ But5 b c r pb t w w' ∧ Row2 w t t'
/-- A port that may be. -/
structure Pt.Ok (s : Pt) : Prop where
  le : s.place ≤ s.told.length
  len : s.told.length ≤ 1000000
theorem Pt.Ok.none {s : Pt} (h : s.Ok) (hx : s.told[s.place]? = none) : s.place = s.told.length := by
  have h1 := h.le
  have h2 := List.getElem?_eq_none_iff.1 hx
  omega
theorem Pt.ask_told {s : Pt} {a : An} (hx : s.told[s.place]? = some a) (q : Qn) (m : M) : s.ask q m = (some a, { s with place := s.place + 1 }, m) := by
  unfold Pt.ask; rw [hx]
theorem Pt.ask_halt {s : Pt} (hx : s.told[s.place]? = none) (hs : s.spent = true) (q : Qn) (m : M) : s.ask q m = (none, { s with halted := true }, m) := by
  unfold Pt.ask; rw [hx]; simp only; rw [if_pos hs]
theorem Pt.ask_keep {s : Pt} (hx : s.told[s.place]? = none) (hs : s.spent = false) (hk : s.keeps = true) (q : Qn) (m : M) : s.ask q m = (some (q.on m).2, { s with told := s.told ++ [(q.on m).2], place := s.place + 1, spent := true }, (q.on m).1) := by
  unfold Pt.ask; rw [hx]; simp only; rw [if_neg (by rw [hs]; decide), if_pos hk]
theorem Pt.ask_do {s : Pt} (hx : s.told[s.place]? = none) (hs : s.spent = false) (hk : s.keeps = false) (q : Qn) (m : M) : s.ask q m = (some (q.on m).2, s, (q.on m).1) := by
  unfold Pt.ask; rw [hx]; simp only; rw [if_neg (by rw [hs]; decide), if_neg (by rw [hk]; decide)]

section
variable {w0 : World} {b c r : Nat} {N : Int} {G : List (Nat × List Value)} {pb po : Nat} {t : Value} {w : World} {m : M} {s : Pt}
theorem pword_any (h : Sys w0 b c r N G pb po t w m s) (hN : N ≤ 1000000) (hs : s.Ok) (k : Int) :
    Calls Tryd.prog 48 #[.pointer (some ⟨pb, po, none⟩), .int .i64 k] w fun e w' => Asked w0 b c r N G pb po t w m s (.word k) e w' := by
  unfold Asked
  cases hx : s.told[s.place]? with
  | some a =>
    rw [Pt.ask_told hx]
    have hw := again_told h.pt (List.getElem?_eq_some_iff.1 hx).1 hs.len
    obtain ⟨g, cap, et, hg, -, hgl, d0, d1, d2, d3⟩ := h.pt.see hx
    have HS := Lib.hid h
    have HG := Lib.hid (⟨hg, hgl, d0, d1, d2, d3⟩ : g ≠ pb ∧ g < w.heap.size ∧ _ ∧ _ ∧ _ ∧ _)
    have HE := Lib.hid et
    clear h hN hs hx et hg hgl d0 d1 d2 d3
    go_enter Tryd.func48, Tryd.ntmps48
    go_wp2_with fail
    refine hw.mono ?_
    rintro e w1 ⟨⟨g1, cap1, et1, rfl⟩, h1, h2⟩
    obtain rfl : g = g1 := by cases HE.out.symm.trans et1; rfl
    have k1 : ∀ i, w1.cell? ⟨g, i, none⟩ = w.cell? ⟨g, i, none⟩ := fun i => World.cell?_of_block (w := w) (h2.block g HG.out.2.1 HG.out.1)
    have d1 := (k1 _).trans HG.out.2.2.2.1
    have d2 := (k1 _).trans HG.out.2.2.2.2.1
    have d3 := (k1 _).trans HG.out.2.2.2.2.2
    have H1 := Lib.hid (fun n => (HS.out.port h1 h2).later (below_drewN w1 n))
    have H2 := Lib.hid (fun n => (But5.of1 (b := b) (c := c) (r := r) (t := t) h2).trans (But5.of (below_drewN w1 n)))
    clear hw h1 h2 k1 et1
    go_wp2_with fail
    go_quiet (fail)
    go_wp2
    go_ret2
    exact ⟨t, rfl, (H1.out _).less (by omega), (H2.out _), Row2.refl _ _⟩
  | none =>
    have hi := hs.none hx
    cases hsp : s.spent with
    | true =>
      rw [Pt.ask_halt hx hsp]
      have hw := again_halt h.pt hi hsp hs.len
      have HS := Lib.hid h
      clear h hs hx hi hsp
      go_enter Tryd.func48, Tryd.ntmps48
      go_wp2_with fail
      refine hw.mono ?_
      rintro e w1 ⟨rfl, h1, h2⟩
      have H1 := Lib.hid (HS.out.port h1 h2)
      have H2 := Lib.hid (But5.of1 (b := b) (c := c) (r := r) (t := t) h2)
      clear hw h1 h2
      unfold Halt
      go_wp2
      exact ⟨rfl, t, rfl, H1.out.less (by omega), H2.out, Row2.refl _ _⟩
    | false =>
      have hw := again_ask h.pt hi hsp hs.len
      cases hk : s.keeps with
      | true =>
        rw [Pt.ask_keep hx hsp hk]
        have HS := Lib.hid h
        have HO := Lib.hid hs
        have HI := Lib.hid hi
        have HK := Lib.hid hk
        clear h hs hx hi hsp hk
        go_enter Tryd.func48, Tryd.ntmps48
        go_wp2_with fail
        refine hw.mono ?_
        rintro e w1 ⟨rfl, h2⟩
        have hS1 := HS.out.later h2
        have HB := Lib.hid h2
        have c0 := hS1.pt.cells.c0
        have hm := hS1.has.word (by omega) k
        have H1 := Lib.hid hS1
        clear hw h2 hS1
        go_wp2_with fail
        refine hm.mono ?_
        rintro e w2 ⟨rfl, h3, h4⟩
        have hS2 := H1.out.mem h3 h4
        have hkp := keep_yes (a := (Qn.on (.word k) m).2) hS2.pt HK.out HO.out.len (by have := HO.out.le; have := HO.out.len; omega) hS2.has.below.size
        have ea : (Qn.on (.word k) m).2.v = .agg #[.nilIface, .int .i64 (m.word k).2.1, .bool false, .int .i64 (m.word k).2.2] := rfl
        rw [ea] at hkp
        have H2 := Lib.hid hS2
        have H3 := Lib.hid h4
        clear hm h3 h4 hS2 c0 ea
        go_wp2_with fail
        refine hkp.mono ?_
        rintro e w3 ⟨rfl, t', h5, h6, h7⟩
        have HS3 := Lib.hid (H2.out.keep h5 h6 h7)
        have H5 := Lib.hid (((But5.of HB.out).trans (But5.of3 H3.out)).trans (But5.of2 h6 : But5 b c r pb t w2 w3))
        have H7 : Hid (Row2 w t t') := h7.from (Nat.le_trans HB.out.size H3.out.size)
        clear hkp h5 h6 h7
        go_wp2
        go_ret2
        exact ⟨t', rfl, HS3.out, H5.out, H7.out⟩
      | false =>
        rw [Pt.ask_do hx hsp hk]
        have HS := Lib.hid h
        have HK := Lib.hid hk
        clear h hs hx hi hsp hk
        go_enter Tryd.func48, Tryd.ntmps48
        go_wp2_with fail
        refine hw.mono ?_
        rintro e w1 ⟨rfl, h2⟩
        have hS1 := HS.out.later h2
        have HB := Lib.hid h2
        have c0 := hS1.pt.cells.c0
        have hm := hS1.has.word (by omega) k
        have H1 := Lib.hid hS1
        clear hw h2 hS1
        go_wp2_with fail
        refine hm.mono ?_
        rintro e w2 ⟨rfl, h3, h4⟩
        have hS2 := H1.out.mem h3 h4
        have hkp := keep_no (a := (Qn.on (.word k) m).2) hS2.pt HK.out
        have ea : (Qn.on (.word k) m).2.v = .agg #[.nilIface, .int .i64 (m.word k).2.1, .bool false, .int .i64 (m.word k).2.2] := rfl
        rw [ea] at hkp
        have H2 := Lib.hid hS2
        have H3 := Lib.hid h4
        clear hm h3 h4 hS2 c0 ea
        go_wp2_with fail
        refine hkp.mono ?_
        rintro e w3 ⟨rfl, h6⟩
        have HS3 := Lib.hid (H2.out.later h6)
        have H5 := Lib.hid (((But5.of HB.out).trans (But5.of3 H3.out)).trans (But5.of h6 : But5 b c r pb t w2 w3))
        clear hkp h6
        go_wp2
        go_ret2
        exact ⟨t, rfl, HS3.out, H5.out, Row2.refl _ _⟩
theorem palloc_any (h : Sys w0 b c r N G pb po t w m s) (hT : TabAt w0) (hN : N ≤ 1000000) (hs : s.Ok) (k : Int) :
    Calls Tryd.prog 81 #[.pointer (some ⟨pb, po, none⟩), .int .i64 k] w fun e w' => Asked w0 b c r N G pb po t w m s (.alloc (.word k)) e w' := by
  unfold Asked
  cases hx : s.told[s.place]? with
  | some a =>
    rw [Pt.ask_told hx]
    have hw := again_told h.pt (List.getElem?_eq_some_iff.1 hx).1 hs.len
    obtain ⟨g, cap, et, hg, -, hgl, d0, d1, d2, d3⟩ := h.pt.see hx
    have HS := Lib.hid h
    have HG := Lib.hid (⟨hg, hgl, d0, d1, d2, d3⟩ : g ≠ pb ∧ g < w.heap.size ∧ _ ∧ _ ∧ _ ∧ _)
    have HE := Lib.hid et
    clear h hT hN hs hx et hg hgl d0 d1 d2 d3
    go_enter Tryd.func81, Tryd.ntmps81
    go_wp2_with fail
    refine hw.mono ?_
    rintro e w1 ⟨⟨g1, cap1, et1, rfl⟩, h1, h2⟩
    obtain rfl : g = g1 := by cases HE.out.symm.trans et1; rfl
    have k1 : ∀ i, w1.cell? ⟨g, i, none⟩ = w.cell? ⟨g, i, none⟩ := fun i => World.cell?_of_block (w := w) (h2.block g HG.out.2.1 HG.out.1)
    have d1 := (k1 _).trans HG.out.2.2.2.1
    have d2 := (k1 _).trans HG.out.2.2.2.2.1
    have d3 := (k1 _).trans HG.out.2.2.2.2.2
    have H1 := Lib.hid (fun n => (HS.out.port h1 h2).later (below_drewN w1 n))
    have H2 := Lib.hid (fun n => (But5.of1 (b := b) (c := c) (r := r) (t := t) h2).trans (But5.of (below_drewN w1 n)))
    clear hw h1 h2 k1 et1
    go_wp2_with fail
    go_quiet (fail)
    go_wp2
    go_ret2
    exact ⟨t, rfl, (H1.out _).less (by omega), (H2.out _), Row2.refl _ _⟩
  | none =>
    have hi := hs.none hx
    cases hsp : s.spent with
    | true =>
      rw [Pt.ask_halt hx hsp]
      have hw := again_halt h.pt hi hsp hs.len
      have HS := Lib.hid h
      clear h hT hs hx hi hsp
      go_enter Tryd.func81, Tryd.ntmps81
      go_wp2_with fail
      refine hw.mono ?_
      rintro e w1 ⟨rfl, h1, h2⟩
      have H1 := Lib.hid (HS.out.port h1 h2)
      have H2 := Lib.hid (But5.of1 (b := b) (c := c) (r := r) (t := t) h2)
      clear hw h1 h2
      unfold Halt
      go_wp2
      exact ⟨rfl, t, rfl, H1.out.less (by omega), H2.out, Row2.refl _ _⟩
    | false =>
      have hw := again_ask h.pt hi hsp hs.len
      cases hk : s.keeps with
      | true =>
        rw [Pt.ask_keep hx hsp hk]
        have HS := Lib.hid h
        have HO := Lib.hid hs
        have HI := Lib.hid hi
        have HK := Lib.hid hk
        clear h hs hx hi hsp hk
        go_enter Tryd.func81, Tryd.ntmps81
        go_wp2_with fail
        refine hw.mono ?_
        rintro e w1 ⟨rfl, h2⟩
        have hS1 := HS.out.later h2
        have HB := Lib.hid h2
        have c0 := hS1.pt.cells.c0
        have hm := hS1.has.allocword hT (by omega) k
        have H1 := Lib.hid hS1
        clear hw h2 hS1
        go_wp2_with fail
        refine hm.mono ?_
        rintro e w2 ⟨rfl, h3, h4⟩
        have hS2 := H1.out.mem h3 h4
        have hkp := keep_yes (a := (Qn.on (.alloc (.word k)) m).2) hS2.pt HK.out HO.out.len (by have := HO.out.le; have := HO.out.len; omega) hS2.has.below.size
        have ea : (Qn.on (.alloc (.word k)) m).2.v = .agg #[.nilIface, .int .i64 (m.alloc (.word k)).2.1, .bool false, .int .i64 (m.alloc (.word k)).2.2] := rfl
        rw [ea] at hkp
        have H2 := Lib.hid hS2
        have H3 := Lib.hid h4
        clear hm h3 h4 hS2 c0 ea
        go_wp2_with fail
        refine hkp.mono ?_
        rintro e w3 ⟨rfl, t', h5, h6, h7⟩
        have HS3 := Lib.hid (H2.out.keep h5 h6 h7)
        have H5 := Lib.hid (((But5.of HB.out).trans (But5.of3 H3.out)).trans (But5.of2 h6 : But5 b c r pb t w2 w3))
        have H7 : Hid (Row2 w t t') := h7.from (Nat.le_trans HB.out.size H3.out.size)
        clear hkp h5 h6 h7
        go_wp2
        go_ret2
        exact ⟨t', rfl, HS3.out, H5.out, H7.out⟩
      | false =>
        rw [Pt.ask_do hx hsp hk]
        have HS := Lib.hid h
        have HK := Lib.hid hk
        clear h hs hx hi hsp hk
        go_enter Tryd.func81, Tryd.ntmps81
        go_wp2_with fail
        refine hw.mono ?_
        rintro e w1 ⟨rfl, h2⟩
        have hS1 := HS.out.later h2
        have HB := Lib.hid h2
        have c0 := hS1.pt.cells.c0
        have hm := hS1.has.allocword hT (by omega) k
        have H1 := Lib.hid hS1
        clear hw h2 hS1
        go_wp2_with fail
        refine hm.mono ?_
        rintro e w2 ⟨rfl, h3, h4⟩
        have hS2 := H1.out.mem h3 h4
        have hkp := keep_no (a := (Qn.on (.alloc (.word k)) m).2) hS2.pt HK.out
        have ea : (Qn.on (.alloc (.word k)) m).2.v = .agg #[.nilIface, .int .i64 (m.alloc (.word k)).2.1, .bool false, .int .i64 (m.alloc (.word k)).2.2] := rfl
        rw [ea] at hkp
        have H2 := Lib.hid hS2
        have H3 := Lib.hid h4
        clear hm h3 h4 hS2 c0 ea
        go_wp2_with fail
        refine hkp.mono ?_
        rintro e w3 ⟨rfl, h6⟩
        have HS3 := Lib.hid (H2.out.later h6)
        have H5 := Lib.hid (((But5.of HB.out).trans (But5.of3 H3.out)).trans (But5.of h6 : But5 b c r pb t w2 w3))
        clear hkp h6
        go_wp2
        go_ret2
        exact ⟨t, rfl, HS3.out, H5.out, Row2.refl _ _⟩
end
end Go.Proofs.YtibimnibmengpaaDoor
/- What a port's other asks answer and make of memory and of the port. Conditions: memory is the call's own; at most 1000000 asks. -/
namespace Go.Proofs.YtibimnibmengpaaDoor
open Go.RowKit Go.Op
set_option maxRecDepth 100000

section
variable {w0 : World} {b c r : Nat} {N : Int} {G : List (Nat × List Value)} {pb po : Nat} {t : Value} {w : World} {m : M} {s : Pt}
theorem pallocblk_any (h : Sys w0 b c r N G pb po t w m s) (hT : TabAt w0) (hN : N ≤ 1000000) (hs : s.Ok) (d : Dat) (pl : Pl) :
    Calls Tryd.prog 83 #[.pointer (some ⟨pb, po, none⟩), .iface d.ty (d.v pl)] w fun e w' => Asked w0 b c r N G pb po t w m s (.alloc (.blk d pl)) e w' := by
  unfold Asked
  cases hx : s.told[s.place]? with
  | some a =>
    rw [Pt.ask_told hx]
    have hw := again_told h.pt (List.getElem?_eq_some_iff.1 hx).1 hs.len
    obtain ⟨g, cap, et, hg, -, hgl, d0, d1, d2, d3⟩ := h.pt.see hx
    have HS := Lib.hid h
    have HG := Lib.hid (⟨hg, hgl, d0, d1, d2, d3⟩ : g ≠ pb ∧ g < w.heap.size ∧ _ ∧ _ ∧ _ ∧ _)
    have HE := Lib.hid et
    clear h hT hN hs hx et hg hgl d0 d1 d2 d3
    go_enter Tryd.func83, Tryd.ntmps83
    go_wp2_with fail
    refine hw.mono ?_
    rintro e w1 ⟨⟨g1, cap1, et1, rfl⟩, h1, h2⟩
    obtain rfl : g = g1 := by cases HE.out.symm.trans et1; rfl
    have k1 : ∀ i, w1.cell? ⟨g, i, none⟩ = w.cell? ⟨g, i, none⟩ := fun i => World.cell?_of_block (w := w) (h2.block g HG.out.2.1 HG.out.1)
    have d1 := (k1 _).trans HG.out.2.2.2.1
    have d2 := (k1 _).trans HG.out.2.2.2.2.1
    have d3 := (k1 _).trans HG.out.2.2.2.2.2
    have H1 := Lib.hid (fun n => (HS.out.port h1 h2).later (below_drewN w1 n))
    have H2 := Lib.hid (fun n => (But5.of1 (b := b) (c := c) (r := r) (t := t) h2).trans (But5.of (below_drewN w1 n)))
    clear hw h1 h2 k1 et1
    go_wp2_with fail
    go_quiet (fail)
    go_wp2
    go_ret2
    exact ⟨t, rfl, (H1.out _).less (by omega), (H2.out _), Row2.refl _ _⟩
  | none =>
    have hi := hs.none hx
    cases hsp : s.spent with
    | true =>
      rw [Pt.ask_halt hx hsp]
      have hw := again_halt h.pt hi hsp hs.len
      have HS := Lib.hid h
      clear h hT hs hx hi hsp
      go_enter Tryd.func83, Tryd.ntmps83
      go_wp2_with fail
      refine hw.mono ?_
      rintro e w1 ⟨rfl, h1, h2⟩
      have H1 := Lib.hid (HS.out.port h1 h2)
      have H2 := Lib.hid (But5.of1 (b := b) (c := c) (r := r) (t := t) h2)
      clear hw h1 h2
      unfold Halt
      go_wp2
      exact ⟨rfl, t, rfl, H1.out.less (by omega), H2.out, Row2.refl _ _⟩
    | false =>
      have hw := again_ask h.pt hi hsp hs.len
      cases hk : s.keeps with
      | true =>
        rw [Pt.ask_keep hx hsp hk]
        have HS := Lib.hid h
        have HO := Lib.hid hs
        have HI := Lib.hid hi
        have HK := Lib.hid hk
        clear h hs hx hi hsp hk
        go_enter Tryd.func83, Tryd.ntmps83
        go_wp2_with fail
        refine hw.mono ?_
        rintro e w1 ⟨rfl, h2⟩
        have hS1 := HS.out.later h2
        have HB := Lib.hid h2
        have c0 := hS1.pt.cells.c0
        have hm := hS1.has.allocblk hT (by omega) d pl
        have H1 := Lib.hid hS1
        clear hw h2 hS1
        go_wp2_with fail
        refine hm.mono ?_
        rintro e w2 ⟨rfl, h3, h4⟩
        have hS2 := H1.out.mem h3 h4
        have hkp := keep_yes (a := (Qn.on (.alloc (.blk d pl)) m).2) hS2.pt HK.out HO.out.len (by have := HO.out.le; have := HO.out.len; omega) hS2.has.below.size
        have ea : (Qn.on (.alloc (.blk d pl)) m).2.v = .agg #[.nilIface, .int .i64 (m.alloc (.blk d pl)).2.1, .bool false, .int .i64 (m.alloc (.blk d pl)).2.2] := rfl
        rw [ea] at hkp
        have H2 := Lib.hid hS2
        have H3 := Lib.hid h4
        clear hm h3 h4 hS2 c0 ea
        go_wp2_with fail
        refine hkp.mono ?_
        rintro e w3 ⟨rfl, t', h5, h6, h7⟩
        have HS3 := Lib.hid (H2.out.keep h5 h6 h7)
        have H5 := Lib.hid (((But5.of HB.out).trans (But5.of3 H3.out)).trans (But5.of2 h6 : But5 b c r pb t w2 w3))
        have H7 : Hid (Row2 w t t') := h7.from (Nat.le_trans HB.out.size H3.out.size)
        clear hkp h5 h6 h7
        go_wp2
        go_ret2
        exact ⟨t', rfl, HS3.out, H5.out, H7.out⟩
      | false =>
        rw [Pt.ask_do hx hsp hk]
        have HS := Lib.hid h
        have HK := Lib.hid hk
        clear h hs hx hi hsp hk
        go_enter Tryd.func83, Tryd.ntmps83
        go_wp2_with fail
        refine hw.mono ?_
        rintro e w1 ⟨rfl, h2⟩
        have hS1 := HS.out.later h2
        have HB := Lib.hid h2
        have c0 := hS1.pt.cells.c0
        have hm := hS1.has.allocblk hT (by omega) d pl
        have H1 := Lib.hid hS1
        clear hw h2 hS1
        go_wp2_with fail
        refine hm.mono ?_
        rintro e w2 ⟨rfl, h3, h4⟩
        have hS2 := H1.out.mem h3 h4
        have hkp := keep_no (a := (Qn.on (.alloc (.blk d pl)) m).2) hS2.pt HK.out
        have ea : (Qn.on (.alloc (.blk d pl)) m).2.v = .agg #[.nilIface, .int .i64 (m.alloc (.blk d pl)).2.1, .bool false, .int .i64 (m.alloc (.blk d pl)).2.2] := rfl
        rw [ea] at hkp
        have H2 := Lib.hid hS2
        have H3 := Lib.hid h4
        clear hm h3 h4 hS2 c0 ea
        go_wp2_with fail
        refine hkp.mono ?_
        rintro e w3 ⟨rfl, h6⟩
        have HS3 := Lib.hid (H2.out.later h6)
        have H5 := Lib.hid (((But5.of HB.out).trans (But5.of3 H3.out)).trans (But5.of h6 : But5 b c r pb t w2 w3))
        clear hkp h6
        go_wp2
        go_ret2
        exact ⟨t, rfl, HS3.out, H5.out, Row2.refl _ _⟩
theorem pfree_any (h : Sys w0 b c r N G pb po t w m s) (hN : N ≤ 1000000) (hs : s.Ok) (k : Int) :
    Calls Tryd.prog 98 #[.pointer (some ⟨pb, po, none⟩), .int .i64 k] w fun e w' => Asked w0 b c r N G pb po t w m s (.free k) e w' := by
  unfold Asked
  cases hx : s.told[s.place]? with
  | some a =>
    rw [Pt.ask_told hx]
    have hw := again_told h.pt (List.getElem?_eq_some_iff.1 hx).1 hs.len
    obtain ⟨g, cap, et, hg, -, hgl, d0, d1, d2, d3⟩ := h.pt.see hx
    have HS := Lib.hid h
    have HG := Lib.hid (⟨hg, hgl, d0, d1, d2, d3⟩ : g ≠ pb ∧ g < w.heap.size ∧ _ ∧ _ ∧ _ ∧ _)
    have HE := Lib.hid et
    clear h hN hs hx et hg hgl d0 d1 d2 d3
    go_enter Tryd.func98, Tryd.ntmps98
    go_wp2_with fail
    refine hw.mono ?_
    rintro e w1 ⟨⟨g1, cap1, et1, rfl⟩, h1, h2⟩
    obtain rfl : g = g1 := by cases HE.out.symm.trans et1; rfl
    have k1 : ∀ i, w1.cell? ⟨g, i, none⟩ = w.cell? ⟨g, i, none⟩ := fun i => World.cell?_of_block (w := w) (h2.block g HG.out.2.1 HG.out.1)
    have d1 := (k1 _).trans HG.out.2.2.2.1
    have d2 := (k1 _).trans HG.out.2.2.2.2.1
    have d3 := (k1 _).trans HG.out.2.2.2.2.2
    have H1 := Lib.hid (fun n => (HS.out.port h1 h2).later (below_drewN w1 n))
    have H2 := Lib.hid (fun n => (But5.of1 (b := b) (c := c) (r := r) (t := t) h2).trans (But5.of (below_drewN w1 n)))
    clear hw h1 h2 k1 et1
    go_wp2_with fail
    go_wp2
    go_ret
    exact ⟨t, rfl, (H1.out 0).less (by omega), (H2.out 0), Row2.refl _ _⟩
  | none =>
    have hi := hs.none hx
    cases hsp : s.spent with
    | true =>
      rw [Pt.ask_halt hx hsp]
      have hw := again_halt h.pt hi hsp hs.len
      have HS := Lib.hid h
      clear h hs hx hi hsp
      go_enter Tryd.func98, Tryd.ntmps98
      go_wp2_with fail
      refine hw.mono ?_
      rintro e w1 ⟨rfl, h1, h2⟩
      have H1 := Lib.hid (HS.out.port h1 h2)
      have H2 := Lib.hid (But5.of1 (b := b) (c := c) (r := r) (t := t) h2)
      clear hw h1 h2
      unfold Halt
      go_wp2
      exact ⟨rfl, t, rfl, H1.out.less (by omega), H2.out, Row2.refl _ _⟩
    | false =>
      have hw := again_ask h.pt hi hsp hs.len
      cases hk : s.keeps with
      | true =>
        rw [Pt.ask_keep hx hsp hk]
        have HS := Lib.hid h
        have HO := Lib.hid hs
        have HI := Lib.hid hi
        have HK := Lib.hid hk
        clear h hs hx hi hsp hk
        go_enter Tryd.func98, Tryd.ntmps98
        go_wp2_with fail
        refine hw.mono ?_
        rintro e w1 ⟨rfl, h2⟩
        have hS1 := HS.out.later h2
        have HB := Lib.hid h2
        have c0 := hS1.pt.cells.c0
        have hm := hS1.has.free (by omega) k
        have H1 := Lib.hid hS1
        clear hw h2 hS1
        go_wp2_with fail
        refine hm.mono ?_
        rintro e w2 ⟨rfl, h3, h4⟩
        have hS2 := H1.out.mem h3 h4
        have hkp := keep_yes (a := (Qn.on (.free k) m).2) hS2.pt HK.out HO.out.len (by have := HO.out.le; have := HO.out.len; omega) hS2.has.below.size
        have ea : (Qn.on (.free k) m).2.v = .agg #[.nilIface, .int .i64 0, .bool false, .int .i64 (m.free k).2] := rfl
        rw [ea] at hkp
        have H2 := Lib.hid hS2
        have H3 := Lib.hid h4
        clear hm h3 h4 hS2 c0 ea
        go_wp2_with fail
        refine hkp.mono ?_
        rintro e w3 ⟨rfl, t', h5, h6, h7⟩
        have HS3 := Lib.hid (H2.out.keep h5 h6 h7)
        have H5 := Lib.hid (((But5.of HB.out).trans (But5.of3 H3.out)).trans (But5.of2 h6 : But5 b c r pb t w2 w3))
        have H7 : Hid (Row2 w t t') := h7.from (Nat.le_trans HB.out.size H3.out.size)
        clear hkp h5 h6 h7
        go_wp2
        go_ret
        exact ⟨t', rfl, HS3.out, H5.out, H7.out⟩
      | false =>
        rw [Pt.ask_do hx hsp hk]
        have HS := Lib.hid h
        have HK := Lib.hid hk
        clear h hs hx hi hsp hk
        go_enter Tryd.func98, Tryd.ntmps98
        go_wp2_with fail
        refine hw.mono ?_
        rintro e w1 ⟨rfl, h2⟩
        have hS1 := HS.out.later h2
        have HB := Lib.hid h2
        have c0 := hS1.pt.cells.c0
        have hm := hS1.has.free (by omega) k
        have H1 := Lib.hid hS1
        clear hw h2 hS1
        go_wp2_with fail
        refine hm.mono ?_
        rintro e w2 ⟨rfl, h3, h4⟩
        have hS2 := H1.out.mem h3 h4
        have hkp := keep_no (a := (Qn.on (.free k) m).2) hS2.pt HK.out
        have ea : (Qn.on (.free k) m).2.v = .agg #[.nilIface, .int .i64 0, .bool false, .int .i64 (m.free k).2] := rfl
        rw [ea] at hkp
        have H2 := Lib.hid hS2
        have H3 := Lib.hid h4
        clear hm h3 h4 hS2 c0 ea
        go_wp2_with fail
        refine hkp.mono ?_
        rintro e w3 ⟨rfl, h6⟩
        have HS3 := Lib.hid (H2.out.later h6)
        have H5 := Lib.hid (((But5.of HB.out).trans (But5.of3 H3.out)).trans (But5.of h6 : But5 b c r pb t w2 w3))
        clear hkp h6
        go_wp2
        go_ret
        exact ⟨t, rfl, HS3.out, H5.out, Row2.refl _ _⟩
end
end Go.Proofs.YtibimnibmengpaaDoor
/- What a port's other asks answer and make of memory and of the port. Conditions: memory is the call's own; at most 1000000 asks. -/
namespace Go.Proofs.YtibimnibmengpaaDoor
open Go.RowKit Go.Op
set_option maxRecDepth 100000

theorem held_shape (x : Held) : x.v = .nilIface ∨ ∃ ty z, x.v = .iface ty z := by
  cases x
  · exact .inl rfl
  all_goals exact .inr ⟨_, _, rfl⟩
section
variable {w0 : World} {b c r : Nat} {N : Int} {G : List (Nat × List Value)} {pb po : Nat} {t : Value} {w : World} {m : M} {s : Pt}
theorem pload_any (h : Sys w0 b c r N G pb po t w m s) (hN : N ≤ 1000000) (hs : s.Ok) (k : Int) :
    Calls Tryd.prog 66 #[.pointer (some ⟨pb, po, none⟩), .int .i64 k] w fun e w' => Asked w0 b c r N G pb po t w m s (.load k) e w' := by
  unfold Asked
  cases hx : s.told[s.place]? with
  | some a =>
    rw [Pt.ask_told hx]
    have hw := again_told h.pt (List.getElem?_eq_some_iff.1 hx).1 hs.len
    obtain ⟨g, cap, et, hg, -, hgl, d0, d1, d2, d3⟩ := h.pt.see hx
    have HS := Lib.hid h
    have HG := Lib.hid (⟨hg, hgl, d0, d1, d2, d3⟩ : g ≠ pb ∧ g < w.heap.size ∧ _ ∧ _ ∧ _ ∧ _)
    have HE := Lib.hid et
    clear h hN hs hx et hg hgl d0 d1 d2 d3
    go_enter Tryd.func66, Tryd.ntmps66
    go_wp2_with fail
    refine hw.mono ?_
    rintro e w1 ⟨⟨g1, cap1, et1, rfl⟩, h1, h2⟩
    obtain rfl : g = g1 := by cases HE.out.symm.trans et1; rfl
    have k1 : ∀ i, w1.cell? ⟨g, i, none⟩ = w.cell? ⟨g, i, none⟩ := fun i => World.cell?_of_block (w := w) (h2.block g HG.out.2.1 HG.out.1)
    have d0 := (k1 _).trans HG.out.2.2.1
    have d1 := (k1 _).trans HG.out.2.2.2.1
    have d2 := (k1 _).trans HG.out.2.2.2.2.1
    have d3 := (k1 _).trans HG.out.2.2.2.2.2
    have H1 := Lib.hid (fun n => (HS.out.port h1 h2).later (below_drewN w1 n))
    have H2 := Lib.hid (fun n => (But5.of1 (b := b) (c := c) (r := r) (t := t) h2).trans (But5.of (below_drewN w1 n)))
    have l0 : ∀ n, (Instr.loadAt 20 (.pointer (some ⟨g, s.place * 4, none⟩))).run Tryd.prog (w1.drewN n) = .ok a.held.v (w1.drewN n) := fun n => load_20 d0
    clear hw h1 h2 k1 et1
    go_wp2_with fail
    go_quiet (fail)
    go_wp2
    go_ret2
    exact ⟨t, rfl, (H1.out _).less (by omega), (H2.out _), Row2.refl _ _⟩
  | none =>
    have hi := hs.none hx
    cases hsp : s.spent with
    | true =>
      rw [Pt.ask_halt hx hsp]
      have hw := again_halt h.pt hi hsp hs.len
      have HS := Lib.hid h
      clear h hs hx hi hsp
      go_enter Tryd.func66, Tryd.ntmps66
      go_wp2_with fail
      refine hw.mono ?_
      rintro e w1 ⟨rfl, h1, h2⟩
      have H1 := Lib.hid (HS.out.port h1 h2)
      have H2 := Lib.hid (But5.of1 (b := b) (c := c) (r := r) (t := t) h2)
      clear hw h1 h2
      unfold Halt
      go_wp2
      exact ⟨rfl, t, rfl, H1.out.less (by omega), H2.out, Row2.refl _ _⟩
    | false =>
      have hw := again_ask h.pt hi hsp hs.len
      cases hk : s.keeps with
      | true =>
        rw [Pt.ask_keep hx hsp hk]
        have HS := Lib.hid h
        have HO := Lib.hid hs
        have HI := Lib.hid hi
        have HK := Lib.hid hk
        clear h hs hx hi hsp hk
        go_enter Tryd.func66, Tryd.ntmps66
        go_wp2_with fail
        refine hw.mono ?_
        rintro e w1 ⟨rfl, h2⟩
        have hS1 := HS.out.later h2
        have HB := Lib.hid h2
        have c0 := hS1.pt.cells.c0
        have hm := hS1.has.load (by omega) k
        obtain ⟨V, eV, hV⟩ : ∃ V, V = (m.load k).2.1.v ∧ (V = .nilIface ∨ ∃ ty x, V = .iface ty x) := ⟨_, rfl, held_shape _⟩
        rw [← eV] at hm
        have HV := Lib.hid eV
        clear eV
        have H1 := Lib.hid hS1
        clear hw h2 hS1
        go_wp2_with fail
        refine hm.mono ?_
        rintro e w2 ⟨rfl, h3, h4⟩
        have hS2 := H1.out.mem h3 h4
        have hkp := keep_yes (a := (Qn.on (.load k) m).2) hS2.pt HK.out HO.out.len (by have := HO.out.le; have := HO.out.len; omega) hS2.has.below.size
        have ea : (Qn.on (.load k) m).2.v = .agg #[(m.load k).2.1.v, .int .i64 0, .bool false, .int .i64 (m.load k).2.2] := rfl
        rw [ea] at hkp
        rw [← HV.out] at hkp
        have H2 := Lib.hid hS2
        have H3 := Lib.hid h4
        clear hm h3 h4 hS2 c0 ea
        rcases hV with rfl | ⟨ty, x, rfl⟩
        all_goals
          go_wp2_with fail
          refine hkp.mono ?_
          rintro e w3 ⟨rfl, t', h5, h6, h7⟩
          have HS3 := Lib.hid (H2.out.keep h5 h6 h7)
          have H5 := Lib.hid (((But5.of HB.out).trans (But5.of3 H3.out)).trans (But5.of2 h6 : But5 b c r pb t w2 w3))
          have H7 : Hid (Row2 w t t') := h7.from (Nat.le_trans HB.out.size H3.out.size)
          clear hkp h5 h6 h7
          go_wp2
          go_ret2
          exact ⟨t', by show _ = Ending.returned (.tuple #[(m.load k).2.1.v, _]); rw [← HV.out]; rfl, HS3.out, H5.out, H7.out⟩
      | false =>
        rw [Pt.ask_do hx hsp hk]
        have HS := Lib.hid h
        have HK := Lib.hid hk
        clear h hs hx hi hsp hk
        go_enter Tryd.func66, Tryd.ntmps66
        go_wp2_with fail
        refine hw.mono ?_
        rintro e w1 ⟨rfl, h2⟩
        have hS1 := HS.out.later h2
        have HB := Lib.hid h2
        have c0 := hS1.pt.cells.c0
        have hm := hS1.has.load (by omega) k
        obtain ⟨V, eV, hV⟩ : ∃ V, V = (m.load k).2.1.v ∧ (V = .nilIface ∨ ∃ ty x, V = .iface ty x) := ⟨_, rfl, held_shape _⟩
        rw [← eV] at hm
        have HV := Lib.hid eV
        clear eV
        have H1 := Lib.hid hS1
        clear hw h2 hS1
        go_wp2_with fail
        refine hm.mono ?_
        rintro e w2 ⟨rfl, h3, h4⟩
        have hS2 := H1.out.mem h3 h4
        have hkp := keep_no (a := (Qn.on (.load k) m).2) hS2.pt HK.out
        have ea : (Qn.on (.load k) m).2.v = .agg #[(m.load k).2.1.v, .int .i64 0, .bool false, .int .i64 (m.load k).2.2] := rfl
        rw [ea] at hkp
        rw [← HV.out] at hkp
        have H2 := Lib.hid hS2
        have H3 := Lib.hid h4
        clear hm h3 h4 hS2 c0 ea
        rcases hV with rfl | ⟨ty, x, rfl⟩
        all_goals
          go_wp2_with fail
          refine hkp.mono ?_
          rintro e w3 ⟨rfl, h6⟩
          have HS3 := Lib.hid (H2.out.later h6)
          have H5 := Lib.hid (((But5.of HB.out).trans (But5.of3 H3.out)).trans (But5.of h6 : But5 b c r pb t w2 w3))
          clear hkp h6
          go_wp2
          go_ret2
          exact ⟨t, by show _ = Ending.returned (.tuple #[(m.load k).2.1.v, _]); rw [← HV.out]; rfl, HS3.out, H5.out, Row2.refl _ _⟩
end
end Go.Proofs.YtibimnibmengpaaDoor
/- What run answers: the deferred closure meets what a port panics with, and nothing else. Conditions: the function leaves all but memory's blocks, the port's and its row's as it was. -/
namespace Go.Proofs.YtibimnibmengpaaDoor
open Go.RowKit Go.Op
set_option maxRecDepth 100000

/-- More rows of swaps; the new ones stand in blocks that weren't there. -/
def Grow (w : World) (G G' : List (Nat × List Value)) : Prop := (∀ x, x ∈ G → x ∈ G') ∧ ∀ x, x ∈ G' → x ∈ G ∨ w.heap.size ≤ x.1
theorem Grow.refl (w : World) (G : List (Nat × List Value)) : Grow w G G := ⟨fun _ h => h, fun _ h => .inl h⟩
theorem Grow.trans {w w' : World} {G G' G'' : List (Nat × List Value)} (h : Grow w G G') (hs : w.heap.size ≤ w'.heap.size) (k : Grow w' G' G'') : Grow w G G'' :=
  ⟨fun x hx => k.1 x (h.1 x hx), fun x hx => (k.2 x hx).elim (h.2 x) fun e => .inr (Nat.le_trans hs e)⟩
theorem Grow.from {w w1 : World} {G G' : List (Nat × List Value)} (h : Grow w1 G G') (hs : w.heap.size ≤ w1.heap.size) : Grow w G G' := ⟨h.1, fun x hx => (h.2 x hx).imp id fun e => Nat.le_trans hs e⟩

theorem as108_no (w : World) : (Instr.typeAssert .nilIface 20 126 true).run Tryd.prog w = .ok (.tuple #[.agg #[.pointer none], .bool false]) w := by kernel_rfl
theorem as108_yes (v : Value) (w : World) : (Instr.typeAssert (.iface 126 v) 20 126 true).run Tryd.prog w = .ok (.tuple #[v, .bool true]) w := by kernel_rfl

theorem neq58_same (a : Addr) (w : World) : (binOp .neq 36 (.pointer (some a)) (.pointer (some a))).run Tryd.prog w = .ok (.bool false) w := by
  obtain ⟨j, hj⟩ : ∃ j, Tryd.prog.info? 94 = some j := ⟨_, rfl⟩
  exact Lib.run_neq_ptr_same w a Tryd.underlying36 hj
theorem slots57 (x y : Value) : #[x] ++ ((Array.replicate 22 undef).setIfInBounds 3 y).setIfInBounds 0 y = #[x, y, undef, undef, y, undef, undef, undef, undef, undef, undef, undef, undef, undef, undef, undef, undef, undef, undef, undef, undef, undef, undef] := by kernel_rfl
/-- How a function's call ends: it answers v, and its port wasn't stopped; or its port panics, and was. -/
def Ran (pb po : Nat) (R : Option Value → World → Prop) (e : Ending) (w : World) : Prop :=
  (∃ ty x, e = .returned (.iface ty x) ∧ R (some (.iface ty x)) w ∧ w.cell? ⟨pb, po + 6, none⟩ = some (.bool false)) ∨ (e = Halt pb po ∧ R none w)
/-- What run answers then. -/
def Run2 (R : Option Value → World → Prop) (e : Ending) (w : World) : Prop :=
  (∃ ty x w', e = .returned (.tuple #[.iface ty x, .bool true]) ∧ R (some (.iface ty x)) w' ∧ Below w'.heap.size w' w) ∨ (∃ w', e = .returned (.tuple #[.nilIface, .bool false]) ∧ R none w' ∧ Below w'.heap.size w' w)
theorem hmf (fn : Fn) (first cap : Array Value) (w : World) : (Instr.makeFunc fn first cap).run Tryd.prog w = .ok (.func fn first cap) w := rfl
end Go.Proofs.YtibimnibmengpaaDoor
/- What a machine's calls answer and make of it: New, Step, Ended, Out, Steps, Noted. Conditions: its function does what its port lets it do; at most 1000000 asks. -/
namespace Go.Proofs.YtibimnibmengpaaDoor
open Go.RowKit Go.Op
set_option maxRecDepth 100000

/-- A machine: its port, its function, whether it has ended, what it answered. -/
structure Mac (w0 : World) (b c r : Nat) (N : Int) (G : List (Nat × List Value)) (xb : Nat) (t : Value) (w : World) (m : M) (s : Pt) (f : Value) (fin : Bool) (out : Value) : Prop where
  sys : Sys w0 b c r N G xb 1 t w m s
  ok : fin = false → s.Ok
  e0 : s.ext 0 = some f
  e8 : s.ext 8 = some (.bool fin)
  e9 : s.ext 9 = some out
section
variable {w0 : World} {b c r : Nat} {N : Int} {G : List (Nat × List Value)} {xb : Nat} {t : Value} {w : World} {m : M} {s : Pt} {f : Value} {fin : Bool} {out : Value}
theorem Mac.c0 (h : Mac w0 b c r N G xb t w m s f fin out) : w.cell? ⟨xb, 0, none⟩ = some f := (h.sys.pt.ext 0 (by omega)).trans h.e0
theorem Mac.c8 (h : Mac w0 b c r N G xb t w m s f fin out) : w.cell? ⟨xb, 8, none⟩ = some (.bool fin) := (h.sys.pt.ext 8 (by omega)).trans h.e8
theorem Mac.c9 (h : Mac w0 b c r N G xb t w m s f fin out) : w.cell? ⟨xb, 9, none⟩ = some out := (h.sys.pt.ext 9 (by omega)).trans h.e9
theorem Mac.less {N' : Int} (h : Mac w0 b c r N G xb t w m s f fin out) (hN : N ≤ N') : Mac w0 b c r N' G xb t w m s f fin out := ⟨h.sys.less hN, h.ok, h.e0, h.e8, h.e9⟩
theorem Mac.later {w' : World} (h : Mac w0 b c r N G xb t w m s f fin out) (hb : Below w.heap.size w w') : Mac w0 b c r N G xb t w' m s f fin out := ⟨h.sys.later hb, h.ok, h.e0, h.e8, h.e9⟩
/-- A part of what is told. -/
def nth (k : Nat) (v : Value) : Value := match v with
  | .tuple xs => xs.getD k undef
  | _ => undef
theorem nth_0 (a b : Value) : nth 0 (.tuple #[a, b]) = a := rfl
theorem nth_1 (a b : Value) : nth 1 (.tuple #[a, b]) = b := rfl
theorem load_35 {w : World} {p : Addr} {fk : FuncId} {caps : Array Value} (h : w.cell? p = some (.func (.func fk) #[] caps)) : (Instr.loadAt 42 (.pointer (some p))).run Tryd.prog w = .ok (.func (.func fk) #[] caps) w := by go_simp
theorem st_nil (a : Addr) (m : Mode) (w : World) : (store a .nilFunc m).run Tryd.prog w = stored Tryd.prog w a .nilFunc m := run_store _ w a _ m rfl
/-- What a step comes to: the machine, its row, memory, its port; o is what the function answered, if it ended. -/
def Outc (s : Pt) (w0 : World) (b c r : Nat) (N : Int) (G : List (Nat × List Value)) (xb po : Nat) (t : Value) (w : World) (Φ : Option Value → M → Pt → List (Nat × List Value) → Prop) (o : Option Value) (w' : World) : Prop :=
  ∃ t' m' s' G', Sys w0 b c r N G' xb po t' w' m' s' ∧ Row2 w t t' ∧ s'.Ok ∧ s'.ext = s.ext ∧ Grow w G G' ∧ Φ o m' s' G'
def SMid (R : Option Value → World → Prop) (b c r xb : Nat) (t : Value) (w : World) (bs : List Bool) (β : Nat → Value) (W : World) : Prop :=
  (bs[0]? = some false → Below w.heap.size w W) ∧ (bs[0]? = some true → Run2 R (.returned (β 7)) W ∧ But5 b c r xb t w W)
end
section
variable {R : Option Value → World → Prop} {b c r xb : Nat} {t : Value} {w : World} {bs : List Bool} {β : Nat → Value} {W : World}
theorem smid_start {β : Nat → Value} : SMid R b c r xb t w [false] β w.drew := ⟨fun _ => (Below.refl _ _).drew, fun e => (by cases e)⟩
theorem smid_nth (h : SMid R b c r xb t w bs β W) (h0 : bs[0]? = some true) {k : Nat} (hk : k < 2) : (Instr.extract (β 7) k).run Tryd.prog W = .ok (nth k (β 7)) W := by
  rcases (h.2 h0).1 with ⟨ty, x, _, e, _⟩ | ⟨_, e, _⟩
  all_goals
    have e7 := Ending.returned.inj e
    rw [e7]
    match k, hk with
    | 0, _ => rfl
    | 1, _ => rfl
end
section
variable {w0 : World} {b c r : Nat} {N : Int} {G : List (Nat × List Value)} {xb : Nat} {t : Value} {w : World} {m : M} {s : Pt} {f : Value} {fin : Bool} {out : Value}
/-- A port at a step's beginning. -/
def Pt.fresh (s : Pt) : Pt := { s with place := 0, spent := false, halted := false }
/-- Behind a step. -/
def Stepped (w0 : World) (b c r : Nat) (N : Int) (G : List (Nat × List Value)) (xb : Nat) (t : Value) (w : World) (f out : Value) (Φ : Option Value → M → Pt → List (Nat × List Value) → Prop) (e : Ending) (w' : World) : Prop :=
  ∃ t' m' s' G', ((∃ v, e = .returned (.bool true) ∧ ∃ s1, Φ (some v) m' s1 G' ∧ s'.place = s1.place ∧ s'.noted = s1.noted ∧ Mac w0 b c r N G' xb t' w' m' s' .nilFunc true v) ∨ (e = .returned (.bool false) ∧ Φ none m' s' G' ∧ Mac w0 b c r N G' xb t' w' m' s' f false out)) ∧ But5 b c r xb t w w' ∧ Row2 w t t' ∧ Grow w G G'

end
end Go.Proofs.YtibimnibmengpaaDoor
/- Many machines of one memory: each has its own blocks; a step of one leaves the others as they were. New. No condition. -/
namespace Go.Proofs.YtibimnibmengpaaDoor
open Go.RowKit Go.Op
set_option maxRecDepth 100000

structure Mach where
  xb : Nat
  t : Value
  s : Pt
  f : Value
  fin : Bool
  out : Value
/-- No block of one is the other's. -/
structure Apart2 (x y : Mach) : Prop where
  xx : x.xb ≠ y.xb
  tx : x.t.ownBlock ≠ some y.xb
  xt : y.t.ownBlock ≠ some x.xb
  tt : ∀ k, x.t.ownBlock = some k → y.t.ownBlock ≠ some k
theorem Apart2.symm {x y : Mach} (h : Apart2 x y) : Apart2 y x := ⟨h.xx.symm, h.xt, h.tx, fun k e e2 => h.tt k e2 e⟩
structure Team (w0 : World) (b c r : Nat) (N : Int) (G : List (Nat × List Value)) (w : World) (m : M) (L : List Mach) : Prop where
  has : Has w0 b c r N w m
  mac : ∀ (i : Nat) (x : Mach), L[i]? = some x → Mac w0 b c r N G x.xb x.t w m x.s x.f x.fin x.out
  apart : ∀ (i j : Nat) (x y : Mach), L[i]? = some x → L[j]? = some y → i ≠ j → Apart2 x y
/-- A block that is nobody's. -/
structure Off (z b c r : Nat) (w : World) (L : List Mach) : Prop where
  lt : z < w.heap.size
  m : z ≠ b ∧ z ≠ c ∧ z ≠ r
  x : ∀ (i : Nat) (x : Mach), L[i]? = some x → z ≠ x.xb ∧ x.t.ownBlock ≠ some z
section
variable {w0 : World} {b c r : Nat} {N N' : Int} {G G' : List (Nat × List Value)} {w w' : World} {m m' : M} {L : List Mach}
theorem Sys.okof {pb po : Nat} {t : Value} {s : Pt} (h : Sys w0 b c r N G pb po t w m s) (ho : m.Ok N') : Sys w0 b c r N' G pb po t w m s :=
  ⟨⟨h.has.at_, ho, h.has.below, h.has.hb, h.has.hc, h.has.hr⟩, h.pt, h.nb, h.tb, h.hp, h.rows⟩
/-- Rows for another port. -/
theorem RowsG.for {pb : Nat} {t0 : Value} (h : RowsG w0 b c r pb t0 G w) (h' : ∀ g l, (g, l) ∈ G' → Rw w' g l ∧ w0.heap.size ≤ g ∧ g ≠ b ∧ g ≠ c ∧ g ≠ r) (hg : Grow w G G') (hp : pb < w.heap.size) (ht : ∀ k, t0.ownBlock = some k → k < w.heap.size) : RowsG w0 b c r pb t0 G' w' := by
  intro g l hx
  obtain ⟨h1, h2, h3, h4, h5⟩ := h' g l hx
  refine ⟨h1, h2, h3, h4, h5, ?_⟩
  rcases hg.2 _ hx with e | e
  · obtain ⟨_, _, _, _, _, h6, h7⟩ := h g l e
    exact ⟨h6, h7⟩
  · have e : w.heap.size ≤ g := e
    exact ⟨by omega, fun e2 => by have := ht g e2; omega⟩
theorem RowsG.bare {pb : Nat} {t0 : Value} (h : RowsG w0 b c r pb t0 G w) : ∀ g l, (g, l) ∈ G → Rw w g l ∧ w0.heap.size ≤ g ∧ g ≠ b ∧ g ≠ c ∧ g ≠ r := fun g l hx =>
  let ⟨h1, h2, h3, h4, h5, _⟩ := h g l hx
  ⟨h1, h2, h3, h4, h5⟩
/-- Another machine's step. -/
theorem Mac.other {x y : Mach} (h : Mac w0 b c r N G y.xb y.t w m y.s y.f y.fin y.out) (ha : Apart2 x y) (hh : Has w0 b c r N' w' m') (hk : But5 b c r x.xb x.t w w') (hg : Grow w G G') (hr : ∀ g l, (g, l) ∈ G' → Rw w' g l ∧ w0.heap.size ≤ g ∧ g ≠ b ∧ g ≠ c ∧ g ≠ r) : Mac w0 b c r N' G' y.xb y.t w' m' y.s y.f y.fin y.out := by
  have p := h.sys.pt
  refine ⟨⟨hh, p.same (hk.block _ p.lt h.sys.nb.1 h.sys.nb.2.1 h.sys.nb.2.2 ha.xx.symm (fun e => ha.tx e.symm)) (fun k e => hk.block k (World.ownsRow.lt p.own k e).2 (fun e2 => h.sys.tb.1 (e2 ▸ e)) (fun e2 => h.sys.tb.2.1 (e2 ▸ e)) (fun e2 => h.sys.tb.2.2 (e2 ▸ e)) (fun e2 => ha.xt (e2 ▸ e)) (fun e2 => ha.tt k e2.symm e)), h.sys.nb, h.sys.tb, h.sys.hp, h.sys.rows.for hr hg p.lt (fun k e => (World.ownsRow.lt p.own k e).2)⟩, h.ok, h.e0, h.e8, h.e9⟩
/-- Memory is asked, by none of these machines. -/
theorem Mac.mem {y : Mach} (h : Mac w0 b c r N G y.xb y.t w m y.s y.f y.fin y.out) (hh : Has w0 b c r N' w' m') (hk : Kept b c r w w') (hg : Grow w G G') (hr : ∀ g l, (g, l) ∈ G' → Rw w' g l ∧ w0.heap.size ≤ g ∧ g ≠ b ∧ g ≠ c ∧ g ≠ r) : Mac w0 b c r N' G' y.xb y.t w' m' y.s y.f y.fin y.out := by
  have p := h.sys.pt
  exact ⟨⟨hh, p.same (hk.block _ p.lt h.sys.nb.1 h.sys.nb.2.1 h.sys.nb.2.2) (fun k e => hk.block k (World.ownsRow.lt p.own k e).2 (fun e2 => h.sys.tb.1 (e2 ▸ e)) (fun e2 => h.sys.tb.2.1 (e2 ▸ e)) (fun e2 => h.sys.tb.2.2 (e2 ▸ e))), h.sys.nb, h.sys.tb, h.sys.hp, h.sys.rows.for hr hg p.lt (fun k e => (World.ownsRow.lt p.own k e).2)⟩, h.ok, h.e0, h.e8, h.e9⟩
theorem Team.mem (h : Team w0 b c r N G w m L) (hh : Has w0 b c r N' w' m') (hk : Kept b c r w w') (hg : Grow w G G') (hr : ∀ g l, (g, l) ∈ G' → Rw w' g l ∧ w0.heap.size ≤ g ∧ g ≠ b ∧ g ≠ c ∧ g ≠ r) : Team w0 b c r N' G' w' m' L :=
  ⟨hh, fun i x hx => (h.mac i x hx).mem hh hk hg hr, h.apart⟩
theorem Team.step (h : Team w0 b c r N G w m L) {i : Nat} {x y : Mach} (hi : L[i]? = some x) (hx : y.xb = x.xb) (hy : Mac w0 b c r N' G' y.xb y.t w' m' y.s y.f y.fin y.out) (hk : But5 b c r x.xb x.t w w') (hr : Row2 w x.t y.t) (hg : Grow w G G') : Team w0 b c r N' G' w' m' (L.set i y) := by
  have hlt : ∀ (j : Nat) (z : Mach), L[j]? = some z → z.xb < w.heap.size ∧ ∀ k, z.t.ownBlock = some k → k < w.heap.size := fun j z hz =>
    ⟨(h.mac j z hz).sys.pt.lt, fun k e => (World.ownsRow.lt (h.mac j z hz).sys.pt.own k e).2⟩
  have key : ∀ (j : Nat) (z : Mach), L[j]? = some z → i ≠ j → Apart2 y z := fun j z hz hij => by
    have a := h.apart i j x z hi hz hij
    obtain ⟨l1, l2⟩ := hlt j z hz
    refine ⟨by rw [hx]; exact a.xx, fun e => ?_, by rw [hx]; exact a.xt, fun k e e2 => ?_⟩
    · rcases hr _ e with e2 | e2
      · exact a.tx e2
      · omega
    · rcases hr _ e with e3 | e3
      · exact a.tt k e3 e2
      · have := l2 k e2
        omega
  refine ⟨hy.sys.has, fun j z hz => ?_, fun j k z u hz hu hjk => ?_⟩
  · rw [List.getElem?_set] at hz
    split at hz
    · split at hz
      · cases hz; exact hy
      · cases hz
    · rename_i hij
      exact (h.mac j z hz).other (h.apart i j x z hi hz hij) hy.sys.has hk hg hy.sys.rows.bare
  · rw [List.getElem?_set] at hz hu
    split at hz
    · rename_i hij
      split at hz
      · cases hz
        rw [if_neg (by omega)] at hu
        exact key k u hu (by omega)
      · cases hz
    · rename_i hij
      split at hu
      · split at hu
        · cases hu
          exact (key j z hz hij).symm
        · cases hu
      · exact h.apart j k z u hz hu hjk
theorem Off.step {z : Nat} (h : Off z b c r w L) {i : Nat} {x y : Mach} (hi : L[i]? = some x) (hx : y.xb = x.xb) (hk : But5 b c r x.xb x.t w w') (hr : Row2 w x.t y.t) : Off z b c r w' (L.set i y) ∧ w'.heap[z]? = w.heap[z]? := by
  have a := h.x i x hi
  refine ⟨⟨Nat.lt_of_lt_of_le h.lt hk.size, h.m, fun j u hu => ?_⟩, hk.block z h.lt h.m.1 h.m.2.1 h.m.2.2 a.1 (fun e => a.2 e.symm)⟩
  rw [List.getElem?_set] at hu
  split at hu
  · split at hu
    · cases hu
      refine ⟨by rw [hx]; exact a.1, fun e => ?_⟩
      rcases hr _ e with e2 | e2
      · exact a.2 e2
      · have := h.lt; omega
    · cases hu
  · exact h.x j u hu
theorem Team.later (h : Team w0 b c r N G w m L) (hb : Below w.heap.size w w') : Team w0 b c r N G w' m L :=
  ⟨h.has.later hb, fun i x hx => (h.mac i x hx).later hb, h.apart⟩
theorem Off.later {z : Nat} (h : Off z b c r w L) (hb : w.heap.size ≤ w'.heap.size) : Off z b c r w' L := ⟨Nat.lt_of_lt_of_le h.lt hb, h.m, h.x⟩
theorem Team.nil (h : Has w0 b c r N w m) : Team w0 b c r N G w m [] := ⟨h, fun i x hx => (by simp at hx), fun i j x y hx => (by simp at hx)⟩
/-- What a change of other blocks leaves. -/
theorem Team.beside (h : Team w0 b c r N G w m L) {g : Nat} (hs : w.heap.size ≤ w'.heap.size) (hw : Below w0.heap.size w0 w') (hk : ∀ k, k < w.heap.size → k ≠ g → w'.heap[k]? = w.heap[k]?) (hG : ∀ x, x ∈ G → x.1 ≠ g) (hg : g ≠ b ∧ g ≠ c ∧ g ≠ r ∧ ∀ (i : Nat) (x : Mach), L[i]? = some x → g ≠ x.xb ∧ x.t.ownBlock ≠ some g) : Team w0 b c r N G w' m L := by
  have o := h.has.at_.own
  have hh : Has w0 b c r N w' m := h.has.same hs hw (hk b o.lb hg.1.symm) (hk c o.lc hg.2.1.symm) (hk r o.lr hg.2.2.1.symm)
  refine ⟨hh, fun i x hx => ?_, h.apart⟩
  have q := h.mac i x hx
  have a := hg.2.2.2 i x hx
  have p := q.sys.pt
  exact ⟨⟨hh, p.same (hk _ p.lt a.1.symm) (fun k e => hk k (World.ownsRow.lt p.own k e).2 (fun e2 => a.2 (e2 ▸ e))), q.sys.nb, q.sys.tb, q.sys.hp, fun z l hz => by
    obtain ⟨h1, h2⟩ := q.sys.rows z l hz
    exact ⟨h1.same hs (hk z h1.lt (hG _ hz)), h2⟩⟩, q.ok, q.e0, q.e8, q.e9⟩

def machExt (f : Value) (i : Nat) : Option Value := if i = 0 then some f else if i = 8 then some (.bool false) else if i = 9 then some .nilIface else none
def mach0 (xb : Nat) (f : Value) : Mach := ⟨xb, .slice none 0 0, ⟨true, [], 0, 0, false, false, machExt f⟩, f, false, .nilIface⟩
end
end Go.Proofs.YtibimnibmengpaaDoor
