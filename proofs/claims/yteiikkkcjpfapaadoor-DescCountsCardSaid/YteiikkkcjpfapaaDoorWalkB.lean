/- Memory's cells and counts in the program's memory: what stands where, and what a store makes of it; the four calls that only tell. No condition. -/
import Derived.Test.YteiikkkcjpfapaaDoorWalkA
namespace Go.Proofs.YteiikkkcjpfapaaDoor
open Go.RowKit Go.Op
set_option maxRecDepth 100000

/-- A swap: a cell, the word that it holds, another one. -/
structure Sw where
  cell : Int
  old : Int
  new : Int
/-- A descriptor: its version, the one before, its status's handle, its swaps; where its row of swaps stands. -/
structure Ds where
  ver : Int
  bf : Int
  st : Int
  sw : List Sw
  ad : Option Addr
  n : Nat
  cap : Nat
def Ds.v (d : Ds) : Value := .agg #[.int .i64 d.ver, .int .i64 d.bf, .int .i64 d.st, .slice d.ad d.n d.cap]
/-- What a cell holds. -/
inductive Held where
  | no
  | word (n : Int)
  | desc (d : Ds)
  | text (x : Value)
def Held.v : Held → Value
  | .no => .nilIface
  | .word n => .iface 113 (.int .i64 n)
  | .desc d => .iface 52 d.v
  | .text x => .iface 9 x
def Held.busy : Held → Bool
  | .no => false
  | _ => true
structure Cl where
  held : Held
  gen : Int
  ret : Bool
  stamp : Int
def Cl.can (x : Cl) : Bool := !x.held.busy && decide (x.gen ≤ 16383)
/-- Memory: its cells, how often it was asked, how many are not free, how often a handle was stale. -/
structure M where
  cells : List Cl
  count : Int
  live : Int
  stale : Int
def M.flags (m : M) : List Bool := m.cells.map Cl.can

/-- A cell at an offset of a block. -/
def CAt (w : World) (c o : Nat) (x : Cl) : Prop := w.cell? ⟨c, o, none⟩ = some x.held.v ∧ w.cell? ⟨c, o + 1, none⟩ = some (.int .i64 x.gen) ∧ w.cell? ⟨c, o + 2, none⟩ = some (.bool x.ret) ∧ w.cell? ⟨c, o + 3, none⟩ = some (.int .i64 x.stamp)
def Cells (w : World) (c : Nat) (L : List Cl) : Prop := ∀ i x, L[i]? = some x → CAt w c (i * 4) x
def Rows (w : World) (r n : Nat) (F : List Bool) : Prop := ∀ j, j < (n + 63) / 64 → w.cell? ⟨r, j, none⟩ = some (.int .u64 (rowAt F j : Nat))
structure Head (w : World) (b c r n : Nat) (cnt lv st : Int) : Prop where
  h0 : w.cell? ⟨b, 0, none⟩ = some (.slice (some ⟨c, 0, none⟩) n n)
  h1 : w.cell? ⟨b, 1, none⟩ = some (.slice (some ⟨r, 0, none⟩) ((n + 63) / 64) ((n + 63) / 64))
  h2 : w.cell? ⟨b, 2, none⟩ = some (.int .i64 cnt)
  h3 : w.cell? ⟨b, 3, none⟩ = some (.int .i64 lv)
  h4 : w.cell? ⟨b, 4, none⟩ = some (.int .i64 st)
/-- The places of the three blocks, which may be stored into. -/
structure Own (w : World) (b c r : Nat) : Prop where
  lb : b < w.heap.size
  lc : c < w.heap.size
  lr : r < w.heap.size
  bc : b ≠ c
  br : b ≠ r
  cr : c ≠ r
  fb : ∀ i, w.frozen? ⟨b, i, none⟩ = false
  fc : ∀ i, w.frozen? ⟨c, i, none⟩ = false
  fr : ∀ i, w.frozen? ⟨r, i, none⟩ = false
/-- Memory m stands at blocks b, c, r; which cells may be taken, F tells. -/
structure AtF (w : World) (b c r : Nat) (m : M) (F : List Bool) : Prop where
  own : Own w b c r
  head : Head w b c r m.cells.length m.count m.live m.stale
  cl : Cells w c m.cells
  rw : Rows w r m.cells.length F
def At (w : World) (b c r : Nat) (m : M) : Prop := AtF w b c r m m.flags

/-- All but three blocks is as it was. -/
structure Kept (b c r : Nat) (w w' : World) : Prop where
  os : w'.os = w.os
  tape : w'.tape = w.tape
  output : w'.output = w.output
  size : w.heap.size ≤ w'.heap.size
  block : ∀ k, k < w.heap.size → k ≠ b → k ≠ c → k ≠ r → w'.heap[k]? = w.heap[k]?
theorem Kept.refl (b c r : Nat) (w : World) : Kept b c r w w := ⟨rfl, rfl, rfl, Nat.le_refl _, fun _ _ _ _ _ => rfl⟩
theorem Kept.trans {b c r : Nat} {w1 w2 w3 : World} (h : Kept b c r w1 w2) (k : Kept b c r w2 w3) : Kept b c r w1 w3 :=
  ⟨k.os.trans h.os, k.tape.trans h.tape, k.output.trans h.output, Nat.le_trans h.size k.size, fun i hi hb hc hr => (k.block i (Nat.lt_of_lt_of_le hi h.size) hb hc hr).trans (h.block i hi hb hc hr)⟩
theorem Kept.below {b c r : Nat} {w w' : World} (h : Kept b c r w w') {B : Nat} (hB : B ≤ w.heap.size) (hb : B ≤ b) (hc : B ≤ c) (hr : B ≤ r) : Below B w w' :=
  ⟨h.os, h.tape, h.output, h.size, fun k hk => h.block k (by omega) (by omega) (by omega) (by omega)⟩
theorem Kept.of {b c r : Nat} {w w' : World} (h : Below w.heap.size w w') : Kept b c r w w' := ⟨h.os, h.tape, h.output, h.size, fun k hk _ _ _ => h.block k hk⟩
theorem Kept.set {b c r : Nat} {w w' : World} (h : Kept b c r w w') {a : Addr} (ha : a.block = b ∨ a.block = c ∨ a.block = r) (u : Value) : Kept b c r w (w'.setCell a u) :=
  h.trans ⟨rfl, rfl, rfl, by simp [World.setCell], fun k _ hb hc hr => Below.heap_setCell _ _ _ _ (by rcases ha with ha | ha | ha <;> rw [ha] <;> assumption)⟩
theorem Kept.cell {b c r : Nat} {w w' : World} (h : Kept b c r w w') {p : Addr} (hp : p.block < w.heap.size) (hb : p.block ≠ b) (hc : p.block ≠ c) (hr : p.block ≠ r) : w'.cell? p = w.cell? p :=
  World.cell?_of_block (w := w) (h.block p.block hp hb hc hr)

theorem set_other {w : World} {b i b' i' : Nat} {u x : Value} (h : w.cell? ⟨b', i', none⟩ = some x) (hn : b ≠ b' ∨ i ≠ i') : (w.setCell ⟨b, i, none⟩ u).cell? ⟨b', i', none⟩ = some x := by
  rw [World.cell?_setCell_other w ⟨b, i, none⟩ ⟨b', i', none⟩ u (by
    simp only [ne_eq, Addr.mk.injEq, not_and]
    rcases hn with hn | hn
    · exact fun e => absurd e hn
    · exact fun _ e => absurd e hn)]
  exact h
theorem set_same {w : World} {b i : Nat} {u x : Value} (h : w.cell? ⟨b, i, none⟩ = some x) : (w.setCell ⟨b, i, none⟩ u).cell? ⟨b, i, none⟩ = some u := World.cell?_setCell_same w ⟨b, i, none⟩ u h
theorem Own.set {w : World} {b c r : Nat} (h : Own w b c r) (a : Addr) (u : Value) : Own (w.setCell a u) b c r := by
  have e : (w.setCell a u).heap.size = w.heap.size := by simp [World.setCell]
  exact ⟨by rw [e]; exact h.lb, by rw [e]; exact h.lc, by rw [e]; exact h.lr, h.bc, h.br, h.cr, fun i => by rw [World.frozen?_setCell]; exact h.fb i, fun i => by rw [World.frozen?_setCell]; exact h.fc i, fun i => by rw [World.frozen?_setCell]; exact h.fr i⟩
theorem Head.other {w : World} {b c r n : Nat} {x y z : Int} (h : Head w b c r n x y z) {p : Nat} (hp : p ≠ b) (i : Nat) (u : Value) : Head (w.setCell ⟨p, i, none⟩ u) b c r n x y z :=
  ⟨set_other h.h0 (.inl hp), set_other h.h1 (.inl hp), set_other h.h2 (.inl hp), set_other h.h3 (.inl hp), set_other h.h4 (.inl hp)⟩
theorem CAt.other {w : World} {c o : Nat} {x : Cl} (h : CAt w c o x) {p i : Nat} (hp : p ≠ c ∨ i < o ∨ o + 4 ≤ i) (u : Value) : CAt (w.setCell ⟨p, i, none⟩ u) c o x :=
  ⟨set_other h.1 (by omega), set_other h.2.1 (by omega), set_other h.2.2.1 (by omega), set_other h.2.2.2 (by omega)⟩
theorem Cells.other {w : World} {c : Nat} {L : List Cl} (h : Cells w c L) {p : Nat} (hp : p ≠ c) (i : Nat) (u : Value) : Cells (w.setCell ⟨p, i, none⟩ u) c L :=
  fun k x hx => (h k x hx).other (.inl hp) u
theorem Rows.other {w : World} {r n : Nat} {F : List Bool} (h : Rows w r n F) {p : Nat} (hp : p ≠ r) (i : Nat) (u : Value) : Rows (w.setCell ⟨p, i, none⟩ u) r n F :=
  fun j hj => set_other (h j hj) (.inl hp)
theorem CAt.put0 {w : World} {c o : Nat} {x : Cl} (h : CAt w c o x) (t : Held) : CAt (w.setCell ⟨c, o, none⟩ t.v) c o { x with held := t } :=
  ⟨set_same h.1, set_other h.2.1 (by omega), set_other h.2.2.1 (by omega), set_other h.2.2.2 (by omega)⟩
theorem CAt.put1 {w : World} {c o : Nat} {x : Cl} (h : CAt w c o x) (t : Int) : CAt (w.setCell ⟨c, o + 1, none⟩ (.int .i64 t)) c o { x with gen := t } :=
  ⟨set_other h.1 (by omega), set_same h.2.1, set_other h.2.2.1 (by omega), set_other h.2.2.2 (by omega)⟩
theorem CAt.put2 {w : World} {c o : Nat} {x : Cl} (h : CAt w c o x) (t : Bool) : CAt (w.setCell ⟨c, o + 2, none⟩ (.bool t)) c o { x with ret := t } :=
  ⟨set_other h.1 (by omega), set_other h.2.1 (by omega), set_same h.2.2.1, set_other h.2.2.2 (by omega)⟩
theorem CAt.put3 {w : World} {c o : Nat} {x : Cl} (h : CAt w c o x) (t : Int) : CAt (w.setCell ⟨c, o + 3, none⟩ (.int .i64 t)) c o { x with stamp := t } :=
  ⟨set_other h.1 (by omega), set_other h.2.1 (by omega), set_other h.2.2.1 (by omega), set_same h.2.2.2⟩
/-- A store into cell i's place, by what it makes of that cell. -/
theorem Cells.put {w : World} {c : Nat} {L : List Cl} (h : Cells w c L) {i : Nat} {y : Cl} {o : Nat} (ho : i * 4 ≤ o ∧ o < i * 4 + 4) {u : Value} (hy : CAt (w.setCell ⟨c, o, none⟩ u) c (i * 4) y) : Cells (w.setCell ⟨c, o, none⟩ u) c (L.set i y) := by
  intro k z hz
  rw [List.getElem?_set] at hz
  split at hz
  · rename_i e
    subst e
    split at hz
    · cases hz; exact hy
    · cases hz
  · rename_i e
    exact (h k z hz).other (.inr (by omega)) u
theorem Rows.put {w : World} {r n : Nat} {F : List Bool} (h : Rows w r n F) {q : Nat} (x : Bool) : Rows (w.setCell ⟨r, q / 64, none⟩ (.int .u64 (rowAt (F.set q x) (q / 64) : Nat))) r n (F.set q x) := by
  intro j hj
  by_cases e : q / 64 = j
  · subst e
    exact set_same (h _ hj)
  · rw [rowAt_other F q x j e]
    exact set_other (h j hj) (.inr e)

theorem AtF.count {w : World} {b c r : Nat} {m : M} {F : List Bool} (h : AtF w b c r m F) (x : Int) : AtF (w.setCell ⟨b, 2, none⟩ (.int .i64 x)) b c r { m with count := x } F :=
  ⟨h.own.set _ _, ⟨set_other h.head.h0 (by omega), set_other h.head.h1 (by omega), set_same h.head.h2, set_other h.head.h3 (by omega), set_other h.head.h4 (by omega)⟩, h.cl.other h.own.bc _ _, h.rw.other h.own.br _ _⟩
theorem AtF.live {w : World} {b c r : Nat} {m : M} {F : List Bool} (h : AtF w b c r m F) (x : Int) : AtF (w.setCell ⟨b, 3, none⟩ (.int .i64 x)) b c r { m with live := x } F :=
  ⟨h.own.set _ _, ⟨set_other h.head.h0 (by omega), set_other h.head.h1 (by omega), set_other h.head.h2 (by omega), set_same h.head.h3, set_other h.head.h4 (by omega)⟩, h.cl.other h.own.bc _ _, h.rw.other h.own.br _ _⟩
theorem AtF.stale {w : World} {b c r : Nat} {m : M} {F : List Bool} (h : AtF w b c r m F) (x : Int) : AtF (w.setCell ⟨b, 4, none⟩ (.int .i64 x)) b c r { m with stale := x } F :=
  ⟨h.own.set _ _, ⟨set_other h.head.h0 (by omega), set_other h.head.h1 (by omega), set_other h.head.h2 (by omega), set_other h.head.h3 (by omega), set_same h.head.h4⟩, h.cl.other h.own.bc _ _, h.rw.other h.own.br _ _⟩
theorem AtF.row {w : World} {b c r : Nat} {m : M} {F : List Bool} (h : AtF w b c r m F) {q : Nat} (x : Bool) : AtF (w.setCell ⟨r, q / 64, none⟩ (.int .u64 (rowAt (F.set q x) (q / 64) : Nat))) b c r m (F.set q x) :=
  ⟨h.own.set _ _, h.head.other h.own.br.symm _ _, h.cl.other h.own.cr.symm _ _, h.rw.put x⟩
theorem AtF.put {w : World} {b c r : Nat} {m : M} {F : List Bool} (h : AtF w b c r m F) {i : Nat} {y : Cl} {o : Nat} (ho : i * 4 ≤ o ∧ o < i * 4 + 4) {u : Value} (hy : CAt (w.setCell ⟨c, o, none⟩ u) c (i * 4) y) : AtF (w.setCell ⟨c, o, none⟩ u) b c r { m with cells := m.cells.set i y } F :=
  ⟨h.own.set _ _, by show Head _ _ _ _ (m.cells.set i y).length _ _ _; rw [List.length_set]; exact h.head.other h.own.bc.symm _ _, h.cl.put ho hy, by show Rows _ _ (m.cells.set i y).length _; rw [List.length_set]; exact h.rw.other h.own.cr _ _⟩
theorem AtF.keep {w w' : World} {b c r : Nat} {m : M} {F : List Bool} (h : AtF w b c r m F) {B : Nat} (hb : Below B w w') (h1 : b < B) (h2 : c < B) (h3 : r < B) : AtF w' b c r m F := by
  have k1 : ∀ i, w'.cell? ⟨b, i, none⟩ = w.cell? ⟨b, i, none⟩ := fun i => hb.cell (p := ⟨b, i, none⟩) h1
  have k2 : ∀ i, w'.cell? ⟨c, i, none⟩ = w.cell? ⟨c, i, none⟩ := fun i => hb.cell (p := ⟨c, i, none⟩) h2
  have k3 : ∀ i, w'.cell? ⟨r, i, none⟩ = w.cell? ⟨r, i, none⟩ := fun i => hb.cell (p := ⟨r, i, none⟩) h3
  refine ⟨⟨Nat.lt_of_lt_of_le h.own.lb hb.size, Nat.lt_of_lt_of_le h.own.lc hb.size, Nat.lt_of_lt_of_le h.own.lr hb.size, h.own.bc, h.own.br, h.own.cr, fun i => ?_, fun i => ?_, fun i => ?_⟩, ⟨?_, ?_, ?_, ?_, ?_⟩, fun i x hx => ?_, fun j hj => ?_⟩
  · rw [hb.frozen (p := ⟨b, i, none⟩) h1]; exact h.own.fb i
  · rw [hb.frozen (p := ⟨c, i, none⟩) h2]; exact h.own.fc i
  · rw [hb.frozen (p := ⟨r, i, none⟩) h3]; exact h.own.fr i
  · rw [k1]; exact h.head.h0
  · rw [k1]; exact h.head.h1
  · rw [k1]; exact h.head.h2
  · rw [k1]; exact h.head.h3
  · rw [k1]; exact h.head.h4
  · unfold CAt
    rw [k2, k2, k2, k2]; exact h.cl i x hx
  · rw [k3]; exact h.rw j hj
theorem AtF.below {w w' : World} {b c r : Nat} {m : M} {F : List Bool} (h : AtF w b c r m F) (hb : Below w.heap.size w w') : AtF w' b c r m F := h.keep hb h.own.lb h.own.lc h.own.lr

theorem live_any (w : World) (b c r : Nat) (m : M) (h : At w b c r m) : Calls Tryd.prog 29 #[.pointer (some ⟨b, 0, none⟩)] w fun e w' => e = .returned (.int .i64 m.live) ∧ w = w' := by
  have h0 := h.head.h3
  go_enter Tryd.func29, Tryd.ntmps29
  go_wp2
  go_ret
  exact ⟨rfl, rfl⟩
end Go.Proofs.YteiikkkcjpfapaaDoor
