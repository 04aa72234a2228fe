/- A port, a machine in the program's memory; what begin, again, Note, Ended, Steps, Noted, Out answer and make of them. No condition. -/
import Derived.Test.YtbcpdkmbbgcfbaaDoorWalkI
import Derived.Test.YtbcpdkmbbgcfbaaDoorVGen
import Derived.Maps.AppendAt
import Derived.BigQuiet
namespace Go.Proofs.YtbcpdkmbbgcfbaaDoor
open Go.RowKit Go.Op
set_option maxRecDepth 100000

/-- What memory answered to an ask. -/
structure An where
  held : Held
  n : Int
  ok : Bool
  err : Int
def An.row (a : An) : List Value := [a.held.v, .int .i64 a.n, .bool a.ok, .int .i64 a.err]
def An.v (a : An) : Value := .agg #[a.held.v, .int .i64 a.n, .bool a.ok, .int .i64 a.err]
def tRow (l : List An) : List Value := l.flatMap An.row
theorem tRow_length : ∀ l : List An, (tRow l).length = l.length * 4
  | [] => rfl
  | e :: l => by
    have ih := tRow_length l
    simp only [tRow, List.flatMap_cons, List.length_append, List.length_cons] at ih ⊢
    rw [ih, show e.row.length = 4 from rfl]; omega
theorem tRow_get : ∀ (l : List An) (k : Nat) (hk : k < l.length) (j : Nat), j < 4 → (tRow l)[k * 4 + j]? = ((l[k]'hk).row)[j]?
  | [], _, hk, _, _ => by simp at hk
  | e :: l, 0, _, j, hj => by
    simp only [tRow, List.flatMap_cons]
    rw [List.getElem?_append_left (by rw [show e.row.length = 4 from rfl]; omega)]
    simp
  | e :: l, k + 1, hk, j, hj => by
    have ih := tRow_get l k (by simpa using hk) j hj
    simp only [tRow, List.flatMap_cons] at ih ⊢
    rw [List.getElem?_append_right (by rw [show e.row.length = 4 from rfl]; omega), show e.row.length = 4 from rfl, show (k + 1) * 4 + j - 4 = k * 4 + j by omega]
    exact ih
theorem add_off (b o j : Nat) : (⟨b, o, none⟩ : Addr).add j = ⟨b, o + j, none⟩ := by simp [Addr.add]
theorem held_one (x : Held) : x.v.oneCell' = true := by cases x <;> rfl
theorem t_one {l : List An} : ∀ u ∈ tRow l, u.oneCell' = true := by
  intro u hu
  simp only [tRow, List.mem_flatMap, An.row] at hu
  obtain ⟨e, _, he⟩ := hu
  simp at he
  rcases he with rfl | rfl | rfl | rfl
  · exact held_one _
  all_goals rfl
/-- A port: does it keep answers; those that it was told; how many of them were told again; what was noted last; did it ask in this step; was it stopped; what else its block holds. -/
structure Pt where
  keeps : Bool
  told : List An
  place : Nat
  noted : Int
  spent : Bool
  halted : Bool
  ext : Nat → Option Value
/-- A port's cells, at an offset of a block. -/
structure PCells (w : World) (pb po mb : Nat) (t : Value) (s : Pt) : Prop where
  c0 : w.cell? ⟨pb, po, none⟩ = some (.pointer (some ⟨mb, 0, none⟩))
  c1 : w.cell? ⟨pb, po + 1, none⟩ = some (.bool s.keeps)
  c2 : w.cell? ⟨pb, po + 2, none⟩ = some t
  c3 : w.cell? ⟨pb, po + 3, none⟩ = some (.int .i64 (s.place : Int))
  c4 : w.cell? ⟨pb, po + 4, none⟩ = some (.int .i64 s.noted)
  c5 : w.cell? ⟨pb, po + 5, none⟩ = some (.bool s.spent)
  c6 : w.cell? ⟨pb, po + 6, none⟩ = some (.bool s.halted)
/-- A port in the program's memory: its cells, and the row of what it was told (of blocks from B on). -/
structure PAt (B : Nat) (w : World) (pb po mb : Nat) (t : Value) (s : Pt) : Prop where
  cells : PCells w pb po mb t s
  fz : ∀ i, w.frozen? ⟨pb, i, none⟩ = false
  own : w.ownsRow B 108 4 t s.told.length (tRow s.told)
  ne : t.ownBlock ≠ some pb
  ext : ∀ i, (i < po ∨ po + 7 ≤ i) → w.cell? ⟨pb, i, none⟩ = s.ext i
theorem PAt.lt {B : Nat} {w : World} {pb po mb : Nat} {t : Value} {s : Pt} (h : PAt B w pb po mb t s) : pb < w.heap.size := World.block_lt_of_cell? w _ h.cells.c0
theorem PAt.same {B : Nat} {w w' : World} {pb po mb : Nat} {t : Value} {s : Pt} (h : PAt B w pb po mb t s) (h1 : w'.heap[pb]? = w.heap[pb]?) (h2 : ∀ k, t.ownBlock = some k → w'.heap[k]? = w.heap[k]?) : PAt B w' pb po mb t s := by
  have k1 : ∀ i, w'.cell? ⟨pb, i, none⟩ = w.cell? ⟨pb, i, none⟩ := fun i => World.cell?_of_block (w := w) h1
  refine ⟨⟨by rw [k1]; exact h.cells.c0, by rw [k1]; exact h.cells.c1, by rw [k1]; exact h.cells.c2, by rw [k1]; exact h.cells.c3, by rw [k1]; exact h.cells.c4, by rw [k1]; exact h.cells.c5, by rw [k1]; exact h.cells.c6⟩, fun i => ?_, ?_, h.ne, fun i hi => by rw [k1]; exact h.ext i hi⟩
  · rw [World.frozen?_of_block (w := w) (a := ⟨pb, i, none⟩) h1]; exact h.fz i
  · refine ⟨h.own.1, h.own.2.imp id ?_⟩
    rintro ⟨g, cap, cur, e, r⟩
    exact ⟨g, cap, cur, e, r.1, by rw [h2 g (by rw [e]; rfl)]; exact r.2.1, r.2.2⟩
theorem PAt.below {B : Nat} {w w' : World} {pb po mb : Nat} {t : Value} {s : Pt} (h : PAt B w pb po mb t s) (hb : Below w.heap.size w w') : PAt B w' pb po mb t s :=
  h.same (hb.block _ h.lt) fun k hk => hb.block k (World.ownsRow.lt h.own k hk).2
/-- What the row holds. -/
theorem PAt.see {B : Nat} {w : World} {pb po mb : Nat} {t : Value} {s : Pt} (h : PAt B w pb po mb t s) {i : Nat} {x : An} (hx : s.told[i]? = some x) :
    ∃ g cap, t = .slice (some ⟨g, 0, none⟩) s.told.length cap ∧ g ≠ pb ∧ B ≤ g ∧ g < w.heap.size ∧ w.cell? ⟨g, i * 4, none⟩ = some x.held.v ∧ w.cell? ⟨g, i * 4 + 1, none⟩ = some (.int .i64 x.n) ∧ w.cell? ⟨g, i * 4 + 2, none⟩ = some (.bool x.ok) ∧ w.cell? ⟨g, i * 4 + 3, none⟩ = some (.int .i64 x.err) := by
  obtain ⟨hi, hxe⟩ := List.getElem?_eq_some_iff.1 hx
  rcases h.own.2 with ⟨_, e⟩ | ⟨g, cap, cur, e, hB, hh, _⟩
  · omega
  · have hc : ∀ j v, j < 4 → (x.row)[j]? = some v → w.cell? ⟨g, i * 4 + j, none⟩ = some v := fun j v hj hv => by
      have h1 := tRow_get s.told i hi j hj
      rw [hxe, hv] at h1
      have := World.ownsRow.cells h.own (g := g) (by rw [e]; rfl) (i * 4 + j) v h1
      rw [add_off, Nat.zero_add] at this
      exact this
    have hne := h.ne
    rw [e] at hne
    have hl := World.ownsRow.lt h.own g (by rw [e]; rfl)
    exact ⟨g, cap, e, fun e2 => hne (by rw [e2]; rfl), hB, hl.2, hc 0 _ (by decide) rfl, hc 1 _ (by decide) rfl, hc 2 _ (by decide) rfl, hc 3 _ (by decide) rfl⟩
/-- A store into a port's cells. -/
theorem PAt.set {B : Nat} {w : World} {pb po mb : Nat} {t : Value} {s s' : Pt} (h : PAt B w pb po mb t s) {i : Nat} {u : Value} (hc : PCells (w.setCell ⟨pb, i, none⟩ u) pb po mb t s') (hk : s'.told = s.told) (he : s'.ext = s.ext) (hi : po ≤ i ∧ i < po + 7) : PAt B (w.setCell ⟨pb, i, none⟩ u) pb po mb t s' := by
  refine ⟨hc, fun j => by rw [World.frozen?_setCell]; exact h.fz j, ?_, h.ne, fun j hj => ?_⟩
  rotate_left
  · rw [he, ← h.ext j hj]
    exact World.cell?_setCell_other w ⟨pb, i, none⟩ ⟨pb, j, none⟩ u (by simp only [ne_eq, Addr.mk.injEq, not_and]; intro _ e; omega)
  rw [hk]
  refine ⟨h.own.1, h.own.2.imp id ?_⟩
  rintro ⟨g, cap, cur, e, r⟩
  refine ⟨g, cap, cur, e, r.1, ?_, r.2.2⟩
  have : g ≠ pb := fun e2 => h.ne (by rw [e, e2]; rfl)
  rw [Below.heap_setCell _ _ _ _ this]; exact r.2.1
/-- A store into another cell of a port's block. -/
theorem PAt.put {B : Nat} {w : World} {pb po mb : Nat} {t : Value} {s : Pt} (h : PAt B w pb po mb t s) {i : Nat} {x : Value} (u : Value) (hx : s.ext i = some x) (hi : i < po ∨ po + 7 ≤ i) : PAt B (w.setCell ⟨pb, i, none⟩ u) pb po mb t { s with ext := fun j => if j = i then some u else s.ext j } := by
  have c := h.cells
  refine ⟨⟨set_other c.c0 (by omega), set_other c.c1 (by omega), set_other c.c2 (by omega), set_other c.c3 (by omega), set_other c.c4 (by omega), set_other c.c5 (by omega), set_other c.c6 (by omega)⟩, fun j => by rw [World.frozen?_setCell]; exact h.fz j, ?_, h.ne, fun j hj => ?_⟩
  · refine ⟨h.own.1, h.own.2.imp id ?_⟩
    rintro ⟨g, cap, cur, e, r⟩
    refine ⟨g, cap, cur, e, r.1, ?_, r.2.2⟩
    have : g ≠ pb := fun e2 => h.ne (by rw [e, e2]; rfl)
    rw [Below.heap_setCell _ _ _ _ this]; exact r.2.1
  · by_cases e : j = i
    · subst e
      show _ = if j = j then some u else s.ext j
      rw [if_pos rfl]
      exact set_same ((h.ext j hi).trans hx)
    · show _ = if j = i then some u else s.ext j
      rw [if_neg e, ← h.ext j hj]
      exact World.cell?_setCell_other w ⟨pb, i, none⟩ ⟨pb, j, none⟩ u (by simp only [ne_eq, Addr.mk.injEq, not_and]; intro _ e2; omega)
/-- The row is given up. -/
theorem PAt.forget {B : Nat} {w : World} {pb po mb : Nat} {t : Value} {s : Pt} (h : PAt B w pb po mb t s) : PAt B (w.setCell ⟨pb, po + 2, none⟩ (.slice none 0 0)) pb po mb (.slice none 0 0) { s with told := [] } := by
  have c := h.cells
  refine ⟨⟨set_other c.c0 (by omega), set_other c.c1 (by omega), set_same c.c2, set_other c.c3 (by omega), set_other c.c4 (by omega), set_other c.c5 (by omega), set_other c.c6 (by omega)⟩, fun j => by rw [World.frozen?_setCell]; exact h.fz j, World.ownsRow_nil _ _ _ _, fun e => (by cases e), fun j hj => ?_⟩
  rw [← h.ext j hj]
  exact World.cell?_setCell_other w ⟨pb, po + 2, none⟩ ⟨pb, j, none⟩ _ (by simp only [ne_eq, Addr.mk.injEq, not_and]; intro _ e2; omega)
section
variable {w : World} {pb po mb : Nat} {t : Value} {s : Pt}
theorem PCells.put3 (h : PCells w pb po mb t s) (k : Nat) : PCells (w.setCell ⟨pb, po + 3, none⟩ (.int .i64 (k : Int))) pb po mb t { s with place := k } :=
  ⟨set_other h.c0 (by omega), set_other h.c1 (by omega), set_other h.c2 (by omega), set_same h.c3, set_other h.c4 (by omega), set_other h.c5 (by omega), set_other h.c6 (by omega)⟩
theorem PCells.put4 (h : PCells w pb po mb t s) (k : Int) : PCells (w.setCell ⟨pb, po + 4, none⟩ (.int .i64 k)) pb po mb t { s with noted := k } :=
  ⟨set_other h.c0 (by omega), set_other h.c1 (by omega), set_other h.c2 (by omega), set_other h.c3 (by omega), set_same h.c4, set_other h.c5 (by omega), set_other h.c6 (by omega)⟩
theorem PCells.put5 (h : PCells w pb po mb t s) (k : Bool) : PCells (w.setCell ⟨pb, po + 5, none⟩ (.bool k)) pb po mb t { s with spent := k } :=
  ⟨set_other h.c0 (by omega), set_other h.c1 (by omega), set_other h.c2 (by omega), set_other h.c3 (by omega), set_other h.c4 (by omega), set_same h.c5, set_other h.c6 (by omega)⟩
theorem PCells.put6 (h : PCells w pb po mb t s) (k : Bool) : PCells (w.setCell ⟨pb, po + 6, none⟩ (.bool k)) pb po mb t { s with halted := k } :=
  ⟨set_other h.c0 (by omega), set_other h.c1 (by omega), set_other h.c2 (by omega), set_other h.c3 (by omega), set_other h.c4 (by omega), set_other h.c5 (by omega), set_same h.c6⟩
theorem PCells.put2 (h : PCells w pb po mb t s) (u : Value) (l : List An) : PCells (w.setCell ⟨pb, po + 2, none⟩ u) pb po mb u { s with told := l } :=
  ⟨set_other h.c0 (by omega), set_other h.c1 (by omega), set_same h.c2, set_other h.c3 (by omega), set_other h.c4 (by omega), set_other h.c5 (by omega), set_other h.c6 (by omega)⟩
end

/-- All but a port's block is as it was. -/
structure But (pb : Nat) (w w' : World) : Prop where
  os : w'.os = w.os
  tape : w'.tape = w.tape
  output : w'.output = w.output
  size : w.heap.size ≤ w'.heap.size
  block : ∀ k, k < w.heap.size → k ≠ pb → w'.heap[k]? = w.heap[k]?
theorem But.refl (pb : Nat) (w : World) : But pb w w := ⟨rfl, rfl, rfl, Nat.le_refl _, fun _ _ _ => rfl⟩
theorem But.trans {pb : Nat} {w1 w2 w3 : World} (h : But pb w1 w2) (k : But pb w2 w3) : But pb w1 w3 :=
  ⟨k.os.trans h.os, k.tape.trans h.tape, k.output.trans h.output, Nat.le_trans h.size k.size, fun i hi hb => (k.block i (Nat.lt_of_lt_of_le hi h.size) hb).trans (h.block i hi hb)⟩
theorem But.of {pb : Nat} {w w' : World} (h : Below w.heap.size w w') : But pb w w' := ⟨h.os, h.tape, h.output, h.size, fun k hk _ => h.block k hk⟩
theorem But.set {pb : Nat} {w w' : World} (h : But pb w w') (i : Nat) (u : Value) : But pb w (w'.setCell ⟨pb, i, none⟩ u) :=
  h.trans ⟨rfl, rfl, rfl, by simp [World.setCell], fun k _ hb => Below.heap_setCell _ _ _ _ hb⟩
theorem But.drew {pb : Nat} {w w' : World} (h : But pb w w') : But pb w w'.drew := h.trans (But.of (Below.refl _ _).drew)

theorem begin_any {B : Nat} {w : World} {pb po mb : Nat} {t : Value} {s : Pt} (h : PAt B w pb po mb t s) :
    Calls Tryd.prog 54 #[.pointer (some ⟨pb, po, none⟩)] w fun e w' => e = .returned (.tuple #[]) ∧ PAt B w' pb po mb t { s with place := 0, spent := false, halted := false } ∧ But pb w w' := by
  have c3 := h.cells.c3
  have c5 := h.cells.c5
  have c6 := h.cells.c6
  have fz := h.fz
  have q3 := h.cells.put3 0
  have p3 := h.set q3 rfl rfl (by omega)
  have q5 := p3.cells.put5 false
  have p5 := p3.set q5 rfl rfl (by omega)
  have q6 := p5.cells.put6 false
  have HP := Lib.hid (p5.set q6 rfl rfl (by omega))
  have HK := Lib.hid ((((But.refl pb w).set (po + 3) (.int .i64 ((0 : Nat) : Int))).set (po + 5) (.bool false)).set (po + 6) (.bool false))
  clear h q3 p3 q5 p5 q6
  simp only at HP HK
  go_enter Tryd.func54, Tryd.ntmps54
  go_wp2
  exact bodyPost_end (results_none rfl _ _ _) rfl ⟨rfl, HP.out, HK.out⟩
theorem below_drewN (w : World) (n : Nat) {B : Nat} : Below B w (w.drewN n) := by
  induction n with
  | zero => exact Below.refl _ _
  | succ n ih => exact ih.drew
/-- A port that may ask no more panics so. -/
def Halt (pb po : Nat) : Ending := .panicked [{ v := .iface 118 (.agg #[.pointer (some ⟨pb, po, none⟩)]), recovered := false }]
section
variable {B : Nat} {w : World} {pb po mb : Nat} {t : Value} {s : Pt}
theorem again_told (h : PAt B w pb po mb t s) (hi : s.place < s.told.length) (hl : s.told.length ≤ 1000000) :
    Calls Tryd.prog 62 #[.pointer (some ⟨pb, po, none⟩)] w fun e w' => (∃ g cap, t = .slice (some ⟨g, 0, none⟩) s.told.length cap ∧ e = .returned (.pointer (some ⟨g, s.place * 4, none⟩))) ∧ PAt B w' pb po mb t { s with place := s.place + 1 } ∧ But pb w w' := by
  obtain ⟨g, cap, ht, -, -, -, -⟩ := h.see (List.getElem?_eq_getElem hi)
  subst ht
  have c2 := h.cells.c2
  have c3 := h.cells.c3
  have fz := h.fz
  have HP := Lib.hid (fun n1 n2 => (let h1 := h.below (below_drewN w n1); (h1.set (h1.cells.put3 (s.place + 1)) rfl rfl (by omega)).below (below_drewN _ n2)))
  have HK := Lib.hid (fun n1 n2 => ((But.of (pb := pb) (below_drewN w n1)).set (po + 3) (.int .i64 ((s.place + 1 : Nat) : Int))).trans (But.of (below_drewN _ n2)))
  rw [show ((s.place + 1 : Nat) : Int) = (s.place : Int) + 1 by omega] at HP HK
  have i1 : (s.place : Int) < (s.told.length : Int) := by omega
  have hl2 : (s.told.length : Int) ≤ 1000000 := by omega
  clear h
  generalize s.told.length = n at *
  generalize s.place = p at *
  go_enter Tryd.func62, Tryd.ntmps62
  go_wp2_with fail
  go_quiet (fail)
  go_wp2_with fail
  go_quiet (fail)
  go_wp2
  go_ret
  exact ⟨⟨_, _, rfl, rfl⟩, HP.out _ _, HK.out _ _⟩
theorem again_halt (h : PAt B w pb po mb t s) (hi : s.place = s.told.length) (hs : s.spent = true) (hl : s.told.length ≤ 1000000) :
    Calls Tryd.prog 62 #[.pointer (some ⟨pb, po, none⟩)] w fun e w' => e = Halt pb po ∧ PAt B w' pb po mb t { s with halted := true } ∧ But pb w w' := by
  obtain ⟨a, cap, ht⟩ : ∃ a cap, t = .slice a s.told.length cap := by
    rcases h.own.2 with ⟨e, e2⟩ | ⟨g, cap, cur, e, _⟩
    · exact ⟨none, 0, by rw [e, e2]⟩
    · exact ⟨_, _, e⟩
  subst ht
  have c2 := h.cells.c2
  have c3 := h.cells.c3
  have c5 := h.cells.c5
  have c6 := h.cells.c6
  rw [hs] at c5
  have fz := h.fz
  have HP := Lib.hid (fun n1 => (let h1 := h.below (below_drewN w n1); (h1.set (h1.cells.put6 true) rfl rfl (by omega))))
  have HK := Lib.hid (fun n1 => ((But.of (pb := pb) (below_drewN w n1)).set (po + 6) (.bool true)))
  rw [hi] at c3
  have i1 : ¬ (s.told.length : Int) < (s.told.length : Int) := by omega
  have hl2 : (s.told.length : Int) ≤ 1000000 := by omega
  clear h
  generalize s.told.length = n at *
  unfold Halt
  go_enter Tryd.func62, Tryd.ntmps62
  go_wp2_with fail
  go_quiet (fail)
  go_wp2
  exact ⟨rfl, rfl, HP.out _, HK.out _⟩
theorem again_ask (h : PAt B w pb po mb t s) (hi : s.place = s.told.length) (hs : s.spent = false) (hl : s.told.length ≤ 1000000) :
    Calls Tryd.prog 62 #[.pointer (some ⟨pb, po, none⟩)] w fun e w' => e = .returned (.pointer none) ∧ Below w.heap.size w w' := by
  obtain ⟨a, cap, ht⟩ : ∃ a cap, t = .slice a s.told.length cap := by
    rcases h.own.2 with ⟨e, e2⟩ | ⟨g, cap, cur, e, _⟩
    · exact ⟨none, 0, by rw [e, e2]⟩
    · exact ⟨_, _, e⟩
  subst ht
  have c2 := h.cells.c2
  have c3 := h.cells.c3
  have c5 := h.cells.c5
  rw [hs] at c5
  rw [hi] at c3
  have i1 : ¬ (s.told.length : Int) < (s.told.length : Int) := by omega
  have hl2 : (s.told.length : Int) ≤ 1000000 := by omega
  clear h
  generalize s.told.length = n at *
  go_enter Tryd.func62, Tryd.ntmps62
  go_wp2_with fail
  go_quiet (fail)
  go_wp2
  go_ret
  exact ⟨rfl, below_drewN _ _⟩
end
end Go.Proofs.YtbcpdkmbbgcfbaaDoor
/- What keep makes of a port. Conditions: at most 1000000 answers. -/
namespace Go.Proofs.YtbcpdkmbbgcfbaaDoor
open Go.RowKit Go.Op
set_option maxRecDepth 100000

/-- All but a port's block and its row's is as it was. -/
structure But2 (pb : Nat) (t : Value) (w w' : World) : Prop where
  os : w'.os = w.os
  tape : w'.tape = w.tape
  output : w'.output = w.output
  size : w.heap.size ≤ w'.heap.size
  block : ∀ k, k < w.heap.size → k ≠ pb → some k ≠ t.ownBlock → w'.heap[k]? = w.heap[k]?
theorem But2.of {pb : Nat} {t : Value} {w w' : World} (h : Below w.heap.size w w') : But2 pb t w w' := ⟨h.os, h.tape, h.output, h.size, fun k hk _ _ => h.block k hk⟩
theorem But2.trans {pb : Nat} {t : Value} {w1 w2 w3 : World} (h : But2 pb t w1 w2) (k : But2 pb t w2 w3) : But2 pb t w1 w3 :=
  ⟨k.os.trans h.os, k.tape.trans h.tape, k.output.trans h.output, Nat.le_trans h.size k.size, fun i hi hb ht => (k.block i (Nat.lt_of_lt_of_le hi h.size) hb ht).trans (h.block i hi hb ht)⟩
theorem But2.set {pb : Nat} {t : Value} {w w' : World} (h : But2 pb t w w') (i : Nat) (u : Value) : But2 pb t w (w'.setCell ⟨pb, i, none⟩ u) :=
  h.trans ⟨rfl, rfl, rfl, by simp [World.setCell], fun k _ hb _ => Below.heap_setCell _ _ _ _ hb⟩
/-- A row that is the old one's block, or a new one, or none. -/
def Row2 (w : World) (t t' : Value) : Prop := ∀ k, t'.ownBlock = some k → t.ownBlock = some k ∨ w.heap.size ≤ k
theorem Row2.from {w w1 : World} {t t' : Value} (h : Row2 w1 t t') (hs : w.heap.size ≤ w1.heap.size) : Row2 w t t' := fun k hk => (h k hk).imp id fun h2 => Nat.le_trans hs h2

theorem info94 : (Tryd.prog.info? 108).map (fun i => (i.zero, i.size, i.bytes)) = some (some (.agg #[.nilIface, .int .i64 0, .bool false, .int .i64 0]), 4, 40) := by kernel_rfl
theorem size94 : (Tryd.prog.info? 108).map (·.size) = some 4 := by kernel_rfl
theorem load_65 {w : World} {p : Addr} {v : Value} (h : w.cell? p = some v) : (Instr.loadAt 80 (.pointer (some p))).run Tryd.prog w = .ok v w := by go_simp
theorem store_65 {w : World} {b i : Nat} {u : Value} {a : Option Addr} {n c : Nat} (h : w.cell? ⟨b, i, none⟩ = some u) (hf : w.frozen? ⟨b, i, none⟩ = false) : (Instr.storeAt 80 (.pointer (some ⟨b, i, none⟩)) (.slice a n c)).run Tryd.prog w = .ok () (w.setCell ⟨b, i, none⟩ (.slice a n c)) := by go_simp
theorem load_94 {w : World} {b o : Nat} {a : An} (h : w.rangeAt b o a.row) : (Instr.loadAt 108 (.pointer (some ⟨b, o, none⟩))).run Tryd.prog w = .ok a.v w :=
  run_loadAt_mid w b o 108 a.row _ h Tryd.underlying108 rfl size94
theorem row_94 (a : An) (w : World) : (Instr.buildSlice 80 1 #[(0, a.v)]).run Tryd.prog w = .ok (.slice (some ⟨w.heap.size, 0, none⟩) 1 1) (w.alloc (.cells a.row.toArray 108)) := by
  obtain ⟨h, n, o, e⟩ := a
  cases h <;> kernel_rfl
section
variable {B : Nat} {w : World} {pb po mb : Nat} {t : Value} {s : Pt} {a : An}
/-- Behind the append: the row has one answer more. -/
structure KApp (B : Nat) (w : World) (pb po mb : Nat) (t : Value) (s : Pt) (a : An) (t' : Value) (W : World) : Prop where
  own : W.ownsRow B 108 4 t' (s.told.length + 1) (tRow (s.told ++ [a]))
  but : But2 pb t w W
  cells : PCells W pb po mb t s
  fz : ∀ i, W.frozen? ⟨pb, i, none⟩ = false
  row : Row2 w t t'
  ne : t'.ownBlock ≠ some pb
  ext : ∀ i, (i < po ∨ po + 7 ≤ i) → W.cell? ⟨pb, i, none⟩ = s.ext i
/-- Within keep's second region. -/
structure KMid (B : Nat) (w : World) (pb po mb : Nat) (t : Value) (s : Pt) (a : An) (bs : List Bool) (β : Nat → Value) (W : World) : Prop where
  a0 : bs[1]? = some false → bs[2]? = some false → Below w.heap.size w W
  a1 : bs[0]? = some true → bs[1]? = some false → bs[2]? = some false → ∃ g, β 6 = .slice (some ⟨g, 0, none⟩) 1 1 ∧ W.rangeAt g 0 a.row
  a2 : bs[1]? = some true → bs[2]? = some false → KApp B w pb po mb t s a (β 7) W
  a3 : bs[2]? = some true → ∃ t', PAt B W pb po mb t' { s with told := s.told ++ [a] } ∧ But2 pb t w W ∧ Row2 w t t'
theorem kmid_start {β : Nat → Value} : KMid B w pb po mb t s a [false, false, false] β w.drew :=
  ⟨fun _ _ => (Below.refl _ _).drew, fun e => (by cases e), fun e => (by cases e), fun e => (by cases e)⟩
variable {bs : List Bool} {β : Nat → Value} {W : World}
theorem set_at {p : Nat} (h : bs[p]? = some false) : (bs.set p true)[p]? = some true := List.getElem?_set_self (List.getElem?_eq_some_iff.1 h).1
theorem kmid_row (h : KMid B w pb po mb t s a bs β W) (h1 : bs[1]? = some false) (h2 : bs[2]? = some false) :
    ∃ u w', (Instr.buildSlice 80 1 #[(0, a.v)]).run Tryd.prog W = .ok u w' ∧ KMid B w pb po mb t s a (bs.set 0 true) (FreeV.upd β 6 u) w' := by
  have hb := h.a0 h1 h2
  refine ⟨_, _, row_94 a W, ⟨fun _ _ => hb.alloc hb.size _, fun _ _ _ => ⟨W.heap.size, by simp [FreeV.upd], ?_⟩, fun e => ?_, fun e => ?_⟩⟩
  · intro j v hj
    rw [World.cell?_alloc_new, Nat.zero_add]
    simpa using hj
  · simp [h1] at e
  · simp [h2] at e
theorem kmid_app (hP : PAt B w pb po mb t s) (hB : B ≤ w.heap.size) (hl : s.told.length ≤ 1000000) (h : KMid B w pb po mb t s a bs β W) (h0 : bs[0]? = some true) (h1 : bs[1]? = some false) (h2 : bs[2]? = some false) (ty : TypeId) :
    ∃ u w', (Builtin.append_ #[80, 80] ty #[t, β 6]).run Tryd.prog W = .ok u w' ∧ KMid B w pb po mb t s a (bs.set 1 true) (FreeV.upd β 7 u) w' := by
  have hb := h.a0 h1 h2
  obtain ⟨g, e6, hg⟩ := h.a1 h0 h1 h2
  have hW := hP.below hb
  obtain ⟨i0, hi, hz0, hz1, hz2⟩ := info_parts info94
  obtain ⟨v', w', hr, ho, hgr, _, hn⟩ := run_append_own_at W B 80 ty 108 i0 _ 4 40 Tryd.underlying80 hi hz0 hz1 hz2 rfl (by decide) t _ _ hW.own ⟨g, 0, none⟩ 1 1 a.row rfl
    (fun j u hu => by rw [add_off]; exact hg j u hu) (fun u hu => t_one (l := [a]) u (by simpa [tRow] using hu)) (by unfold maxLen; omega) (by omega) (Nat.le_trans hB hb.size)
  rw [e6]
  have hbut : But2 pb t w w' := (But2.of hb).trans ⟨hgr.os, hgr.tape, hgr.output, hgr.size, fun k hk _ ht => hgr.block k hk ht⟩
  have hpb : w'.heap[pb]? = W.heap[pb]? := hgr.block pb hW.lt (fun e => hP.ne e.symm)
  have k1 : ∀ i, w'.cell? ⟨pb, i, none⟩ = W.cell? ⟨pb, i, none⟩ := fun i => World.cell?_of_block (w := W) hpb
  refine ⟨v', w', hr, ⟨fun e => ?_, fun _ e => ?_, fun _ _ => ⟨?_, hbut, ?_, fun i => ?_, ?_, ?_, fun i hi => by rw [k1]; exact hW.ext i hi⟩, fun e => ?_⟩⟩
  · rw [set_at h1] at e
    cases e
  · rw [set_at h1] at e
    cases e
  · simp only [FreeV.upd, if_true]
    rw [show tRow (s.told ++ [a]) = tRow s.told ++ a.row by simp [tRow]]
    exact ho
  · have c := hW.cells
    exact ⟨by rw [k1]; exact c.c0, by rw [k1]; exact c.c1, by rw [k1]; exact c.c2, by rw [k1]; exact c.c3, by rw [k1]; exact c.c4, by rw [k1]; exact c.c5, by rw [k1]; exact c.c6⟩
  · rw [World.frozen?_of_block (w := W) (a := ⟨pb, i, none⟩) hpb]; exact hW.fz i
  · simp only [FreeV.upd, if_true]
    intro k hk
    rcases hn with e | e
    · rw [e] at hk; exact .inl hk
    · rw [e] at hk; cases hk; exact .inr hb.size
  · simp only [FreeV.upd, if_true]
    have := hW.lt
    rcases hn with e | e
    · rw [e]; exact hP.ne
    · rw [e]; intro e2; cases e2; omega
  · simp [h2] at e
theorem kmid_store (h : KMid B w pb po mb t s a bs β W) (h1 : bs[1]? = some true) (h2 : bs[2]? = some false) :
    ∃ w', (Instr.storeAt 80 (.pointer (some ⟨pb, po + 2, none⟩)) (β 7)).run Tryd.prog W = .ok () w' ∧ KMid B w pb po mb t s a (bs.set 2 true) β w' := by
  obtain ⟨ho, hb, hc, hf, hr, hn, hx⟩ := h.a2 h1 h2
  obtain ⟨sa, sn, sc, es⟩ : ∃ sa sn sc, β 7 = .slice sa sn sc := by
    rcases ho.2 with ⟨e, _⟩ | ⟨g, cap, cur, e, _⟩
    · exact ⟨_, _, _, e⟩
    · exact ⟨_, _, _, e⟩
  rw [es] at ho hr hn ⊢
  refine ⟨_, store_65 hc.c2 (hf _), ⟨fun _ e => ?_, fun _ _ e => ?_, fun _ e => ?_, fun _ => ⟨_, ⟨hc.put2 _ _, fun i => by rw [World.frozen?_setCell]; exact hf i, ?_, hn, fun j hj => by
    rw [← hx j hj]
    exact World.cell?_setCell_other W ⟨pb, po + 2, none⟩ ⟨pb, j, none⟩ _ (by simp only [ne_eq, Addr.mk.injEq, not_and]; intro _ e; omega)⟩, hb.set _ _, hr⟩⟩⟩
  · rw [set_at h2] at e
    cases e
  · rw [set_at h2] at e
    cases e
  · rw [set_at h2] at e
    cases e
  · refine ⟨by simpa using ho.1, ho.2.imp (fun e => ⟨e.1, by have := e.2; omega⟩) ?_⟩
    rintro ⟨g, cap, cur, e, r⟩
    have : g ≠ pb := fun e2 => hn (by rw [e, e2]; rfl)
    refine ⟨g, cap, cur, by simpa using e, r.1, ?_, by simpa using r.2.2⟩
    rw [Below.heap_setCell _ _ _ _ this]; exact r.2.1
/-- Behind keep. -/
def Kept2 (B : Nat) (w : World) (pb po mb : Nat) (t : Value) (s' : Pt) (w' : World) : Prop := ∃ t', PAt B w' pb po mb t' s' ∧ But2 pb t w w' ∧ Row2 w t t'

theorem keep_yes (h : PAt B w pb po mb t s) (hk : s.keeps = true) (hl : s.told.length ≤ 1000000) (hp : s.place ≤ 1000000) (hB : B ≤ w.heap.size) :
    Calls Tryd.prog 64 #[.pointer (some ⟨pb, po, none⟩), a.v] w fun e w' => e = .returned (.tuple #[]) ∧ Kept2 B w pb po mb t { s with told := s.told ++ [a], place := s.place + 1, spent := true } w' := by
  have fz := h.fz
  have ea : a.v = .agg #[a.held.v, .int .i64 a.n, .bool a.ok, .int .i64 a.err] := rfl
  obtain ⟨w1, hw1⟩ : ∃ W, W = w.alloc (.cells #[a.held.v, .int .i64 a.n, .bool a.ok, .int .i64 a.err] 108) := ⟨_, rfl⟩
  have hb1 : Below w.heap.size w w1 := by rw [hw1]; exact (Below.refl _ _).alloc (Nat.le_refl _) _
  have h1 := h.below hb1
  have c1 := h1.cells.c1
  rw [hk] at c1
  have hr : w1.rangeAt w.heap.size 0 a.row := fun j v hj => by
    have hj2 : ([a.held.v, .int .i64 a.n, .bool a.ok, .int .i64 a.err] : List Value)[j]? = some v := hj
    rw [hw1, World.cell?_alloc_new, Nat.zero_add]
    simpa using hj2
  have hq : w.heap.size < w1.heap.size := by rw [hw1]; simp
  have HB := Lib.hid (⟨hr, Nat.le_trans hB hb1.size, hq⟩ : w1.rangeAt w.heap.size 0 a.row ∧ B ≤ w1.heap.size ∧ w.heap.size < w1.heap.size)
  have HP := Lib.hid h1
  have HW := Lib.hid hw1.symm
  have HB2 := Lib.hid (But2.of hb1 : But2 pb t w w1)
  have HR : Hid (∀ t1, Row2 w1 t t1 → Row2 w t t1) := fun t1 h => h.from hb1.size
  clear h hb1 h1 hr hq hw1 hk hB
  generalize w.heap.size = q at *
  rw [ea]
  go_enter Tryd.func64, Tryd.ntmps64
  go_wp2_with (first | rw [HW.out] | fail)
  refine FreeV.region_puts (S := KMid B w1 pb po mb t s a) (effs := [6, 7, 10])
    (tab := [⟨2, fun _ => [.pointer (some ⟨pb, po, none⟩)], fun _ => .pointer (some ⟨pb, po, none⟩), .pure⟩,
      ⟨4, fun _ => [.pointer (some ⟨pb, po + 2, none⟩)], fun _ => t, .read⟩,
      ⟨5, fun _ => [.pointer (some ⟨q, 0, none⟩)], fun _ => a.v, .read⟩,
      ⟨6, fun _ => [a.v], fun β => (β 6), .eff⟩,
      ⟨7, fun β => [t, (β 6)], fun β => (β 7), .eff⟩,
      ⟨8, fun _ => [.pointer (some ⟨pb, po, none⟩)], fun _ => .pointer (some ⟨pb, po, none⟩), .pure⟩,
      ⟨10, fun β => [.pointer (some ⟨pb, po + 2, none⟩), (β 7)], fun _ => undef, .put⟩])
    (vs := [([], fun _ => .pointer (some ⟨pb, po, none⟩)), ([], fun _ => .pointer (some ⟨pb, po, none⟩)), ([], fun _ => .pointer (some ⟨pb, po, none⟩)), ([], fun _ => .pointer (some ⟨pb, po + 2, none⟩)), ([], fun _ => t), ([], fun _ => a.v), ([6], fun l => l.headD undef), ([7], fun l => l.headD undef), ([], fun _ => .pointer (some ⟨pb, po, none⟩)), ([], fun _ => .pointer (some ⟨pb, po + 2, none⟩)), ([], fun _ => undef)])
    (by kernel_rfl) ⟨by kernel_rfl, ⟨FreeV.d_nil _ rfl rfl,
      FreeV.d_load _ rfl rfl (fun β bs w h hd => load_65 ((HP.out.below (h.a0 ((hd 1 7 rfl).2 (.inl (by kernel_rfl))) ((hd 2 10 rfl).2 (.inl (by kernel_rfl))))).cells.c2)),
      FreeV.d_load _ rfl rfl (fun β bs w h hd => load_94 (fun j v hj => (((h.a0 ((hd 1 7 rfl).2 (.inl (by kernel_rfl))) ((hd 2 10 rfl).2 (.inl (by kernel_rfl))))).cell HB.out.2.2).trans (HB.out.1 j v hj))),
      FreeV.d_row1 _ rfl rfl 0 rfl (fun β bs w h hd => kmid_row h ((hd 1 7 rfl).2 (.inl (by kernel_rfl))) ((hd 2 10 rfl).2 (.inl (by kernel_rfl)))),
      FreeV.d_app _ rfl rfl 1 rfl (fun β bs ty w h hd => kmid_app HP.out HB.out.2.1 hl h ((hd 0 6 rfl).1 (by kernel_rfl)) ((hd 1 7 rfl).2 (.inr rfl)) ((hd 2 10 rfl).2 (.inl (by kernel_rfl))) ty),
      FreeV.d_nil _ rfl rfl,
      FreeV.d_store _ rfl rfl 2 rfl (fun β bs w h hd => kmid_store h ((hd 1 7 rfl).1 (by kernel_rfl)) ((hd 2 10 rfl).2 (.inr rfl))),
      trivial⟩,
      fun β => by kernel_rfl, fun β => by kernel_rfl, by kernel_rfl, fun β => by kernel_rfl, by kernel_rfl⟩ kmid_start (fun β => Free.from_ 8 [.pointer (some ⟨pb, po, none⟩), .pointer (some ⟨pb, po, none⟩), .pointer (some ⟨pb, po, none⟩), .pointer (some ⟨pb, po + 2, none⟩), t, a.v, (β 6), (β 7), .pointer (some ⟨pb, po, none⟩), .pointer (some ⟨pb, po + 2, none⟩)]) (fun β => by kernel_rfl) ?_
  intro β w4 h4
  obtain ⟨t1, p1, b1, r1⟩ := h4.a3 rfl
  clear h4
  rw [Free.puts_from _ _ _ (Nat.le_of_ble_eq_true rfl)]
  simp only [List.take_succ_cons, List.take_zero, List.drop_succ_cons, List.drop_zero, List.cons_append, List.nil_append, List.length_cons, List.length_nil, Nat.reduceAdd]
  have c3 := p1.cells.c3
  have c5 := p1.cells.c5
  have f1 := p1.fz
  have q3 := p1.set (p1.cells.put3 (s.place + 1)) rfl rfl (by omega)
  rw [show ((s.place + 1 : Nat) : Int) = (s.place : Int) + 1 by omega] at q3
  have HE := Lib.hid (q3.set (q3.cells.put5 true) rfl rfl (by omega))
  have HF := Lib.hid ((b1.set (po + 3) (.int .i64 ((s.place : Int) + 1))).set (po + 5) (.bool true))
  have R1 := Lib.hid r1
  have hp2 : (s.place : Int) ≤ 1000000 := by omega
  clear p1 b1 r1 q3
  go_wp2
  refine bodyPost_end (results_none rfl _ _ _) rfl ⟨rfl, t1, HE.out, HB2.out.trans HF.out, HR.out _ R1.out⟩
theorem keep_no (h : PAt B w pb po mb t s) (hk : s.keeps = false) :
    Calls Tryd.prog 64 #[.pointer (some ⟨pb, po, none⟩), a.v] w fun e w' => e = .returned (.tuple #[]) ∧ Below w.heap.size w w' := by
  have c1 := h.cells.c1
  rw [hk] at c1
  have hlt := h.lt
  have ea : a.v = .agg #[a.held.v, .int .i64 a.n, .bool a.ok, .int .i64 a.err] := rfl
  have h1 := h.below (w' := w.alloc (.cells #[a.held.v, .int .i64 a.n, .bool a.ok, .int .i64 a.err] 108)) ((Below.refl _ _).alloc (Nat.le_refl _) _)
  have c1 := h1.cells.c1
  rw [hk] at c1
  rw [ea]
  clear h h1
  go_enter Tryd.func64, Tryd.ntmps64
  go_wp2
  exact bodyPost_end (results_none rfl _ _ _) rfl ⟨rfl, (Below.refl _ _).alloc (Nat.le_refl _) _⟩
end
end Go.Proofs.YtbcpdkmbbgcfbaaDoor
