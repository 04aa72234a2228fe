/- A row of bytes, read as data: what stands in memory; the library's table, out of the row's condition. No condition of its own. -/
import Derived.Test.YtgjkkbgdkdipgaaDoorRgO
import Derived.Test.YtgjkkbgdkdipgaaDoorRows
import Derived.ProofKit
import Derived.OpenShut
import Derived.Deep.Slices
import Derived.Deep.Fields
import Derived.SliceStrings
import Derived.ChangeOld
import Derived.Lib.LaidTab
import Derived.MakeChecks
namespace Go.Proofs.YtgjkkbgdkdipgaaDoor
open Go.RowKit Go.ChangeShapes Go.WideShapes Go.ChangeAt Go.Deep
set_option maxRecDepth 100000

/-- Bytes that stand in memory. -/
def Bys (w : World) (a : Option Addr) (T : List Int) : Prop :=
  T = [] ∨ ∃ b off, a = some ⟨b, off, none⟩ ∧ b < w.heap.size ∧ ∀ k (hk : k < T.length), w.cell? ⟨b, off + k, none⟩ = some (.int .u8 (T[k]'hk)) ∧ 0 ≤ T[k]'hk ∧ T[k]'hk ≤ 255
theorem Bys.at_ {w W : World} {a : Option Addr} {T : List Int} (h : Bys w a T) (hb : Below w.heap.size w W) {k : Nat} (hk : k < T.length) : ∃ b off, a = some ⟨b, off, none⟩ ∧ W.cell? ⟨b, off + k, none⟩ = some (.int .u8 (T[k]'hk)) ∧ 0 ≤ T[k]'hk ∧ T[k]'hk ≤ 255 := by
  rcases h with rfl | ⟨b, off, rfl, hl, h⟩
  · simp at hk
  · obtain ⟨h1, h2, h3⟩ := h k hk
    exact ⟨b, off, rfl, by rw [hb.cell (p := ⟨b, off + k, none⟩) hl]; exact h1, h2, h3⟩
/-- What is asked of memory. -/
structure Ac where
  act : Int
  pos : Int
  n : Int
  m : Int
  raw : Bool
def AcAt (w : World) (b o : Nat) (x : Ac) : Prop := w.cell? ⟨b, o, none⟩ = some (.int .u8 x.act) ∧ w.cell? ⟨b, o + 1, none⟩ = some (.int .i64 x.pos) ∧ w.cell? ⟨b, o + 2, none⟩ = some (.int .i64 x.n) ∧ w.cell? ⟨b, o + 3, none⟩ = some (.int .i64 x.m) ∧ w.cell? ⟨b, o + 4, none⟩ = some (.bool x.raw)
/-- Acts that stand in memory. -/
def Acts (w : World) (a : Option Addr) (l : List Ac) : Prop :=
  l = [] ∨ ∃ b off, a = some ⟨b, off, none⟩ ∧ b < w.heap.size ∧ ∀ k (hk : k < l.length), AcAt w b (off + k * 5) (l[k]'hk)
theorem Acts.below {w w' : World} {a : Option Addr} {l : List Ac} (h : Acts w a l) (hb : Below w.heap.size w w') : Acts w' a l := by
  rcases h with rfl | ⟨b, off, rfl, hlt, hc⟩
  · exact .inl rfl
  · refine .inr ⟨b, off, rfl, Nat.lt_of_lt_of_le hlt hb.size, fun k hk => ?_⟩
    have k1 : ∀ i, w'.cell? ⟨b, i, none⟩ = w.cell? ⟨b, i, none⟩ := fun i => hb.cell (p := ⟨b, i, none⟩) hlt
    unfold AcAt
    rw [k1, k1, k1, k1, k1]
    exact hc k hk
/-- Acts that can be read: each is of a byte and numbers of 64 bits. -/
def ActsOk (l : List Ac) : Prop := ∀ x ∈ l, 0 ≤ x.act ∧ x.act ≤ 255 ∧ (-9223372036854775808 ≤ x.pos ∧ x.pos ≤ 9223372036854775807) ∧ (-9223372036854775808 ≤ x.n ∧ x.n ≤ 9223372036854775807) ∧ (-9223372036854775808 ≤ x.m ∧ x.m ≤ 9223372036854775807)
theorem wf64 {n : Int} (h : (Lit.int .i64 n).wf = true) : -9223372036854775808 ≤ n ∧ n ≤ 9223372036854775807 := by
  simp [Lit.wf, IntKind.min, IntKind.max, IntKind.signed, IntKind.bits] at h
  exact ⟨by omega, by omega⟩
theorem wf8 {n : Int} (h : (Lit.int .u8 n).wf = true) : 0 ≤ n ∧ n ≤ 255 := by
  simp [Lit.wf, IntKind.min, IntKind.max, IntKind.signed, IntKind.bits] at h
  exact ⟨by omega, by omega⟩
section
variable {H : Type} {enc : TypeId × Value → H} {w : World} {base : Nat} {held : Bool}
theorem cells47 : Tryd.prog.cellsOf 47 = 5 := by kernel_rfl
theorem cells4 : Tryd.prog.cellsOf 4 = 1 := by kernel_rfl
theorem cells3 : Tryd.prog.cellsOf 3 = 1 := by kernel_rfl
theorem cells5 : Tryd.prog.cellsOf 5 = 1 := by kernel_rfl
theorem open_elem {spare : Nat → Bool} {n : Nat} {cs : List Value} {x : DataW H × List MemPlace} (h : DataW.trod enc Tryd.prog w base spare held n 47 cs = some x) :
    ∃ e : Ac, cs = [.int .u8 e.act, .int .i64 e.pos, .int .i64 e.n, .int .i64 e.m, .bool e.raw] ∧ 0 ≤ e.act ∧ e.act ≤ 255 ∧ (-9223372036854775808 ≤ e.pos ∧ e.pos ≤ 9223372036854775807) ∧ (-9223372036854775808 ≤ e.n ∧ e.n ≤ 9223372036854775807) ∧ (-9223372036854775808 ≤ e.m ∧ e.m ≤ 9223372036854775807) := by
  obtain ⟨ys, n', _, _, hlen, hyl, hf⟩ := DataW.trod_struct Tryd.underlying47 h
  rw [cells47] at hlen
  match cs, hlen with
  | [c0, c1, c2, c3, c4], _ =>
    match ys, hyl with
    | [y0, y1, y2, y3, y4], _ =>
      have h0 : DataW.trod enc Tryd.prog w base spare held n' 5 (([c0, c1, c2, c3, c4].drop 0).take (Tryd.prog.cellsOf 5)) = [y0, y1, y2, y3, y4][0]? := hf 0 _ rfl
      have h1 : DataW.trod enc Tryd.prog w base spare held n' 3 (([c0, c1, c2, c3, c4].drop 1).take (Tryd.prog.cellsOf 3)) = [y0, y1, y2, y3, y4][1]? := hf 1 _ rfl
      have h2 : DataW.trod enc Tryd.prog w base spare held n' 3 (([c0, c1, c2, c3, c4].drop 2).take (Tryd.prog.cellsOf 3)) = [y0, y1, y2, y3, y4][2]? := hf 2 _ rfl
      have h3 : DataW.trod enc Tryd.prog w base spare held n' 3 (([c0, c1, c2, c3, c4].drop 3).take (Tryd.prog.cellsOf 3)) = [y0, y1, y2, y3, y4][3]? := hf 3 _ rfl
      have h4 : DataW.trod enc Tryd.prog w base spare held n' 4 (([c0, c1, c2, c3, c4].drop 4).take (Tryd.prog.cellsOf 4)) = [y0, y1, y2, y3, y4][4]? := hf 4 _ rfl
      rw [cells5] at h0
      rw [cells3] at h1 h2 h3
      rw [cells4] at h4
      obtain ⟨a, e0, _, wa⟩ := DataW.trod_int Tryd.underlying5 (show DataW.trod enc Tryd.prog w base spare held n' 5 [c0] = some y0 from h0)
      obtain ⟨p, e1, _, wp⟩ := DataW.trod_int Tryd.underlying3 (show DataW.trod enc Tryd.prog w base spare held n' 3 [c1] = some y1 from h1)
      obtain ⟨k, e2, _, wk⟩ := DataW.trod_int Tryd.underlying3 (show DataW.trod enc Tryd.prog w base spare held n' 3 [c2] = some y2 from h2)
      obtain ⟨m, e3, _, wm⟩ := DataW.trod_int Tryd.underlying3 (show DataW.trod enc Tryd.prog w base spare held n' 3 [c3] = some y3 from h3)
      obtain ⟨g, e4, _⟩ := DataW.trod_bool Tryd.underlying4 (show DataW.trod enc Tryd.prog w base spare held n' 4 [c4] = some y4 from h4)
      simp only [List.cons.injEq, and_true] at e0 e1 e2 e3 e4
      exact ⟨⟨a, p, k, m, g⟩, by rw [e0, e1, e2, e3, e4], (wf8 wa).1, (wf8 wa).2, wf64 wp, wf64 wk, wf64 wm⟩
theorem open_acts {a0 : Option Addr} {len cap : Nat} {d : DataW H} {p : List MemPlace} (h : DataW.Trod enc Tryd.prog w base (fun _ => true) held 22 (.slice a0 len cap) d p) : ∃ l : List Ac, l.length = len ∧ Acts w a0 l ∧ ActsOk l := by
  obtain ⟨fuel, h⟩ := h
  rcases open_slice Tryd.underlying22 h with ⟨hcs, _⟩ | ⟨a, len', cap', m, n, D, Pl, hcs, _, hl, _, hm, _, hi⟩
  · simp [Value.cells] at hcs
    obtain ⟨rfl, rfl, rfl⟩ := hcs
    exact ⟨[], rfl, .inl rfl, fun x hx => by cases hx⟩
  · simp [Value.cells] at hcs
    obtain ⟨rfl, rfl, rfl⟩ := hcs
    by_cases h0 : len = 0
    · subst h0
      exact ⟨[], rfl, .inl rfl, fun x hx => by cases hx⟩
    · have hmc : m = cap := by simpa using hm
      have hel : ∀ i : Nat, ∃ e : Ac, i < len → (w.cell? (a.add (i * 5)) = some (.int .u8 e.act) ∧ w.cell? (a.add (i * 5 + 1)) = some (.int .i64 e.pos) ∧ w.cell? (a.add (i * 5 + 2)) = some (.int .i64 e.n) ∧ w.cell? (a.add (i * 5 + 3)) = some (.int .i64 e.m) ∧ w.cell? (a.add (i * 5 + 4)) = some (.bool e.raw)) ∧ 0 ≤ e.act ∧ e.act ≤ 255 ∧ (-9223372036854775808 ≤ e.pos ∧ e.pos ≤ 9223372036854775807) ∧ (-9223372036854775808 ≤ e.n ∧ e.n ≤ 9223372036854775807) ∧ (-9223372036854775808 ≤ e.m ∧ e.m ≤ 9223372036854775807) := by
        intro i
        by_cases hil : i < len
        · obtain ⟨cs', hc, ht⟩ := hi i (by omega)
          rw [cells47] at hc
          obtain ⟨e, rfl, hok⟩ := open_elem ht
          obtain ⟨_, _, hat⟩ := World.cells?_some hc
          refine ⟨e, fun _ => ⟨⟨?_, ?_, ?_, ?_, ?_⟩, hok⟩⟩
          · have := hat 0 (by omega)
            rw [Go.Deep.add_add] at this
            exact this
          · have := hat 1 (by omega)
            rw [Go.Deep.add_add] at this
            exact this
          · have := hat 2 (by omega)
            rw [Go.Deep.add_add] at this
            exact this
          · have := hat 3 (by omega)
            rw [Go.Deep.add_add] at this
            exact this
          · have := hat 4 (by omega)
            rw [Go.Deep.add_add] at this
            exact this
        · exact ⟨⟨0, 0, 0, 0, false⟩, fun k => absurd k hil⟩
      obtain ⟨f, hf⟩ := Classical.axiomOfChoice hel
      obtain ⟨b, off, spot⟩ := a
      have hc0 := (hf 0 (by omega)).1.1
      have hspot : spot = none := by simpa [Addr.add] using World.cell?_spot hc0
      subst hspot
      have ad : ∀ j, (⟨b, off, none⟩ : Addr).add j = ⟨b, off + j, none⟩ := fun j => by simp [Addr.add]
      have hlen : ((List.range len).map f).length = len := by simp
      refine ⟨(List.range len).map f, hlen, .inr ⟨b, off, rfl, World.block_lt_of_cell? w _ hc0, fun k hk => ?_⟩, fun x hx => ?_⟩
      · have hk' : k < len := by rw [hlen] at hk; exact hk
        obtain ⟨⟨e1, e2, e3, e4, e5⟩, _⟩ := hf k hk'
        rw [ad] at e1 e2 e3 e4 e5
        simp only [List.getElem_map, List.getElem_range]
        exact ⟨e1, e2, e3, e4, e5⟩
      · rw [List.mem_map] at hx
        obtain ⟨i, hi', rfl⟩ := hx
        exact (hf i (by simpa using hi')).2
theorem open_bys {spare : Nat → Bool} {a : Option Addr} {len cap : Nat} {d : DataW H} {p : List MemPlace} (h : DataW.Trod enc Tryd.prog w base spare held 52 (.slice a len cap) d p) (hsp : ∀ n, spare n = true) :
    ∃ T : List Int, T.length = len ∧ Bys w a T := by
  obtain ⟨fuel, hf⟩ := h
  rcases open_ints Tryd.underlying52 Tryd.underlying5 (by kernel_rfl) hf with ⟨hcs, _⟩ | ⟨x, l, c, zs, hcs, _, hl, hm, hz, _, hcell, hwz⟩
  · simp [Value.cells] at hcs
    obtain ⟨rfl, rfl, rfl⟩ := hcs
    exact ⟨[], rfl, .inl rfl⟩
  · simp [Value.cells] at hcs
    obtain ⟨rfl, rfl, rfl⟩ := hcs
    rw [hsp, if_pos rfl] at hz
    have e : (zs.take len).length = len := by rw [List.length_take]; omega
    refine ⟨zs.take len, e, ?_⟩
    by_cases h0 : len = 0
    · subst h0
      exact .inl (by simp)
    · obtain ⟨b, off, spot⟩ := x
      have hc := hcell 0 (by omega)
      have hspot : spot = none := by simpa [Addr.add] using World.cell?_spot hc
      subst hspot
      refine .inr ⟨b, off, rfl, World.block_lt_of_cell? w _ hc, fun k hk => ?_⟩
      have hk' : k < zs.length := by rw [e] at hk; omega
      have := hcell k hk'
      rw [show (⟨b, off, none⟩ : Addr).add k = ⟨b, off + k, none⟩ from by simp [Addr.add]] at this
      rw [this, List.getElem_take, List.getD_eq_getElem?_getD, List.getElem?_eq_getElem hk']
      exact ⟨rfl, (wf8 (hwz _ (List.getElem_mem hk'))).1, (wf8 (hwz _ (List.getElem_mem hk'))).2⟩
end
theorem tab_of_laid {W : World} (h : laidMetH Tryd.prog [("math/bits.deBruijn64tab", Rows.laid_math_bits_deBruijn64tab)] W) : TabAt W := by
  rw [MakeChecks.laidMetH_plain _ _ _ (by kernel_rfl)] at h
  have hT : Lib.TabIs Tryd.prog W "math/bits.deBruijn64tab" .u8 (Lib.deBruijn64tab.map fun (n : Nat) => (n : Int)) :=
    Lib.tabIs_of_head (g := 0) (t := 143) (e := 5) (n := 64) (by kernel_rfl) (by kernel_rfl) (by kernel_rfl) (by kernel_rfl) (by kernel_rfl) (by kernel_rfl) h
  intro j hj
  have hc := hT.cell (g := 0) (by kernel_rfl) j (by rw [List.length_map]; exact hj)
  rw [hc]
  clear hc hT h
  congr 2
  revert j
  decide
theorem laidOut : laidOutB Tryd.prog = true := by kernel_rfl
end Go.Proofs.YtgjkkbgdkdipgaaDoor
