/- A span of the reference, read as data: its two texts and whether it has no end; and read again behind the call. No condition. -/
import Derived.Test.YthglldnhffkefaaKMath
import Derived.WalkKit
import Derived.ProofKit
import Derived.OpenShut
import Derived.ShutString
import Derived.Lib.SmallJoins
import Derived.Below
namespace Go.Proofs.Ythglldnhffkefaa
open Go.ChangeShapes Go.WideShapes Go.ChangeAt Go.RowKit Go.Joins
set_option maxRecDepth 100000

theorem cells40 : Try.prog.cellsOf 40 = 3 := by kernel_rfl
def Sp.d {H : Type} (s : Sp) : DataW H := .agg [.lit (.string s.lo.data.toList), .lit (.string s.hi.data.toList), .lit (.bool s.all)]

theorem open_span {H : Type} {enc : TypeId × Value → H} {w : World} {base b0 : Nat} {spare : Nat → Bool} {held : Bool} {r : Reach} {v : Value} {d : DataW H} {p : List MemPlace} (hv : Value.okWide Try.prog w r b0 40 v) (h : DataW.Trod enc Try.prog w base spare held 40 v d p) :
    ∃ s : Sp, v = s.v ∧ d = s.d ∧ p = [] ∧ s.lo.size ≤ maxLen ∧ s.hi.size ≤ maxLen := by
  obtain ⟨c0, c1, c2, y0, y1, y2, m, rfl, rfl, rfl, h0, h1, h2⟩ := open_agg3 Try.underlying40 (by kernel_rfl) cells40 hv h
  obtain ⟨k, e0, rfl, w0⟩ := DataW.trod_string Try.underlying9 h0
  obtain ⟨n, e1, rfl, w1⟩ := DataW.trod_string Try.underlying9 h1
  obtain ⟨s, e2, rfl⟩ := DataW.trod_bool Try.underlying4 h2
  simp only [List.cons.injEq, and_true] at e0 e1 e2
  subst e0 e1 e2
  exact ⟨⟨k, n, s⟩, rfl, rfl, rfl, w0, w1⟩

theorem shut_span {H : Type} {enc : TypeId × Value → H} {w : World} {base : Nat} {spare : Nat → Bool} {held : Bool} (s : Sp) (w0 : s.lo.size ≤ maxLen) (w1 : s.hi.size ≤ maxLen) :
    DataW.Trod enc Try.prog w base spare held 40 s.v s.d [] :=
  shut_agg3 (y0 := (.lit (.string s.lo.data.toList), [])) (y1 := (.lit (.string s.hi.data.toList), [])) (y2 := (.lit (.bool s.all), [])) Try.underlying40 (by kernel_rfl) cells40
    ⟨1, by simp [DataW.trod, Try.underlying9, w0]⟩ ⟨1, by simp [DataW.trod, Try.underlying9, w1]⟩ ⟨1, by simp [DataW.trod, Try.underlying4]⟩
end Go.Proofs.Ythglldnhffkefaa
