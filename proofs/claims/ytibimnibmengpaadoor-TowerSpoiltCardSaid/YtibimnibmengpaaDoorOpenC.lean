/- A way to spoil a view, read as data: three bytes, a text and a number; and read again behind the call. No condition. -/
import Derived.Test.YtibimnibmengpaaDoorRows
import Derived.WalkKit
import Derived.ProofKit
import Derived.OpenShut
import Derived.ShutString
import Derived.Lib.SmallJoins
import Derived.Below
namespace Go.Proofs.YtibimnibmengpaaDoor
open Go.ChangeShapes Go.WideShapes Go.ChangeAt Go.RowKit Go.Joins
set_option maxRecDepth 100000

theorem cells69 : Tryd.prog.cellsOf 69 = 5 := by kernel_rfl
theorem cellsX5 : Tryd.prog.cellsOf 5 = 1 := by kernel_rfl
theorem cellsX3 : Tryd.prog.cellsOf 3 = 1 := by kernel_rfl
theorem cellsX9 : Tryd.prog.cellsOf 9 = 1 := by kernel_rfl
def spV (a b c : Int) (t : ByteArray) (x : Int) : Value := .agg #[.int .u8 a, .int .u8 b, .int .u8 c, .string t, .int .i64 x]
def spD {H : Type} (a b c : Int) (t : ByteArray) (x : Int) : DataW H := .agg [.lit (.int .u8 a), .lit (.int .u8 b), .lit (.int .u8 c), .lit (.string t.data.toList), .lit (.int .i64 x)]
theorem array5 {α : Type} {cs : Array α} (h : cs.size = 5) : ∃ c0 c1 c2 c3 c4, cs = #[c0, c1, c2, c3, c4] := by
  obtain ⟨l⟩ := cs
  match l, h with
  | [c0, c1, c2, c3, c4], _ => exact ⟨c0, c1, c2, c3, c4, rfl⟩
theorem open_spoil {H : Type} {enc : TypeId × Value → H} {w : World} {base b0 : Nat} {spare : Nat → Bool} {held : Bool} {r : Reach} {v : Value} {d : DataW H} {p : List MemPlace} (hv : Value.okWide Tryd.prog w r b0 69 v) (h : DataW.Trod enc Tryd.prog w base spare held 69 v d p) :
    ∃ a b c t x, v = spV a b c t x ∧ d = spD a b c t x ∧ p = [] ∧ (Lit.int .u8 a).wf = true ∧ (Lit.int .u8 b).wf = true ∧ (Lit.int .u8 c).wf = true ∧ t.size ≤ maxLen ∧ (Lit.int .i64 x).wf = true := by
  obtain ⟨cs, rfl, hsz⟩ := okWide_struct Tryd.underlying69 hv
  obtain ⟨c0, c1, c2, c3, c4, rfl⟩ := array5 (hsz.trans cells69)
  obtain ⟨fuel, hf⟩ := h
  have hcs : (Value.agg #[c0, c1, c2, c3, c4]).cells.toList = [c0, c1, c2, c3, c4] := by simp [Value.cells]
  rw [hcs] at hf
  obtain ⟨ys, n', _, e, _, hyl, hf⟩ := DataW.trod_struct Tryd.underlying69 hf
  match ys, hyl with
  | [y0, y1, y2, y3, y4], _ =>
    have h0 : DataW.trod enc Tryd.prog w base spare held n' 5 (([c0, c1, c2, c3, c4].drop 0).take (Tryd.prog.cellsOf 5)) = [y0, y1, y2, y3, y4][0]? := hf 0 _ rfl
    have h1 : DataW.trod enc Tryd.prog w base spare held n' 5 (([c0, c1, c2, c3, c4].drop 1).take (Tryd.prog.cellsOf 5)) = [y0, y1, y2, y3, y4][1]? := hf 1 _ rfl
    have h2 : DataW.trod enc Tryd.prog w base spare held n' 5 (([c0, c1, c2, c3, c4].drop 2).take (Tryd.prog.cellsOf 5)) = [y0, y1, y2, y3, y4][2]? := hf 2 _ rfl
    have h3 : DataW.trod enc Tryd.prog w base spare held n' 9 (([c0, c1, c2, c3, c4].drop 3).take (Tryd.prog.cellsOf 9)) = [y0, y1, y2, y3, y4][3]? := hf 3 _ rfl
    have h4 : DataW.trod enc Tryd.prog w base spare held n' 3 (([c0, c1, c2, c3, c4].drop 4).take (Tryd.prog.cellsOf 3)) = [y0, y1, y2, y3, y4][4]? := hf 4 _ rfl
    rw [cellsX5] at h0 h1 h2
    rw [cellsX9] at h3
    rw [cellsX3] at h4
    obtain ⟨a, e0, rfl, wa⟩ := DataW.trod_int Tryd.underlying5 (show DataW.trod enc Tryd.prog w base spare held n' 5 [c0] = some y0 from h0)
    obtain ⟨b, e1, rfl, wb⟩ := DataW.trod_int Tryd.underlying5 (show DataW.trod enc Tryd.prog w base spare held n' 5 [c1] = some y1 from h1)
    obtain ⟨c, e2, rfl, wc⟩ := DataW.trod_int Tryd.underlying5 (show DataW.trod enc Tryd.prog w base spare held n' 5 [c2] = some y2 from h2)
    obtain ⟨t, e3, rfl, wt⟩ := DataW.trod_string Tryd.underlying9 (show DataW.trod enc Tryd.prog w base spare held n' 9 [c3] = some y3 from h3)
    obtain ⟨x, e4, rfl, wx⟩ := DataW.trod_int Tryd.underlying3 (show DataW.trod enc Tryd.prog w base spare held n' 3 [c4] = some y4 from h4)
    simp only [List.cons.injEq, and_true] at e0 e1 e2 e3 e4
    subst e0 e1 e2 e3 e4
    simp only [Prod.mk.injEq] at e
    exact ⟨a, b, c, t, x, rfl, by rw [e.1]; rfl, by rw [e.2]; rfl, wa, wb, wc, wt, wx⟩
theorem shut_spoil {H : Type} {enc : TypeId × Value → H} {w : World} {base : Nat} {spare : Nat → Bool} {held : Bool} {a b c : Int} {t : ByteArray} {x : Int} (wa : (Lit.int .u8 a).wf = true) (wb : (Lit.int .u8 b).wf = true) (wc : (Lit.int .u8 c).wf = true) (wt : t.size ≤ maxLen) (wx : (Lit.int .i64 x).wf = true) :
    DataW.Trod enc Tryd.prog w base spare held 69 (spV a b c t x) (spD a b c t x) [] := by
  have h0 : DataW.trod enc Tryd.prog w base spare held 1 5 [.int .u8 a] = some (.lit (.int .u8 a), []) := by simp [DataW.trod, Tryd.underlying5, wa]
  have h1 : DataW.trod enc Tryd.prog w base spare held 1 5 [.int .u8 b] = some (.lit (.int .u8 b), []) := by simp [DataW.trod, Tryd.underlying5, wb]
  have h2 : DataW.trod enc Tryd.prog w base spare held 1 5 [.int .u8 c] = some (.lit (.int .u8 c), []) := by simp [DataW.trod, Tryd.underlying5, wc]
  have h3 : DataW.trod enc Tryd.prog w base spare held 1 9 [.string t] = some (.lit (.string t.data.toList), []) := by simp [DataW.trod, Tryd.underlying9, wt]
  have h4 : DataW.trod enc Tryd.prog w base spare held 1 3 [.int .i64 x] = some (.lit (.int .i64 x), []) := by simp [DataW.trod, Tryd.underlying3, wx]
  have := trod_struct_mk (enc := enc) (w := w) (base := base) (spare := spare) (held := held) (n := 1) (cs := [.int .u8 a, .int .u8 b, .int .u8 c, .string t, .int .i64 x])
    (xs := [(.lit (.int .u8 a), []), (.lit (.int .u8 b), []), (.lit (.int .u8 c), []), (.lit (.string t.data.toList), []), (.lit (.int .i64 x), [])]) Tryd.underlying69 (by rw [cells69]; rfl) (by simp [cellsX5, cellsX9, cellsX3, h0, h1, h2, h3, h4])
  exact ⟨2, by simpa [spV, spD, Value.cells] using this⟩
end Go.Proofs.YtibimnibmengpaaDoor
