/- For every span of the reference and every text rundlelaw04.KeySpans returns true and leaves what was there as it was: the document's examples hold, and of texts of at most 1100 bytes whether the text lies in the span, and whether the span is good, and empty, are what the reference answers; the whole span has no end and holds every text. Conditions: none. -/
import Derived.Test.YtkafbjnhjmlabaaRows
import Derived.Test.YtkafbjnhjmlabaaWalkH
import Derived.Test.YtkafbjnhjmlabaaOpen
namespace Go.Proofs.Ytkafbjnhjmlabaa.keySpans
open Go.ChangeShapes Go.WideShapes Go.ChangeAt Go.RowKit
open Go.ChangeMaps (open_string shut_string)

theorem own : ownKnob Try.prog.godebug = none := by kernel_rfl

theorem walk (x0 : Sp) (x1 : ByteArray) (w : World) :
    Calls Try.prog 4 #[x0.v, .string x1] w fun e w' => e = .returned (.bool true) ∧ Below w.heap.size w w' := spansLaw_any x0 x1 w

set_option maxRecDepth 100000 in
theorem lifted (os : Os) (started : os.Started) (H : Type) (enc : TypeId × Value → H) :
    ReturnsInHanded {} Try.checked os 4 .any (Rows.keySpansSpec.pre6 enc Try.prog Try.f4 Rows.keySpansRow.domain false) (Rows.keySpansSpec.post enc Try.prog Try.f4 false true false false) := by
  refine returnsInHanded_of_change (C := Try.checked) own started (by kernel_rfl) Try.func4
    (ChangeSpec.witness6 (enc := enc) (C := Try.checked) false ⟨#[], #[.agg #[.string ByteArray.empty, .string ByteArray.empty, .bool false], .string ByteArray.empty], []⟩ 8 (by kernel_rfl) (by kernel_rfl) (by kernel_rfl) (by kernel_rfl)) ?_
  intro W base args ds gs before hval0 hW hcnd _
  have hval : ∀ (j : Nat) t v, Try.f4.params[j]? = some t → args[j]? = some v → Value.okWide Try.prog W .any base t v := hval0
  have hW' := hW
  obtain ⟨p, q, hA0, hV, rfl, hfz, hnd⟩ := hW
  have hA : DataW.TrodAll enc Try.prog W 0 (fun _ => true) true Try.f4.params.toList args.toList ds p := hA0
  rw [Try.params4] at hA hval
  obtain ⟨v0, vs0, d0, ds0, p0, q0, hargs, rfl, rfl, h0, r0⟩ := trodAll_cons hA
  obtain ⟨v1, vs1, d1, ds1, p1, q1, rfl, rfl, rfl, h1, r1⟩ := trodAll_cons r0
  obtain ⟨rfl, rfl, rfl⟩ := trodAll_nil r1
  obtain rfl : args = #[v0, v1] := by cases args; simp_all
  obtain ⟨rfl, rfl⟩ := trodVars_none hV
  obtain ⟨x0, rfl, rfl, rfl, a0, b0⟩ := open_span (hval 0 28 v0 rfl rfl) h0
  obtain ⟨x1, rfl, rfl, rfl, a1⟩ := open_string Try.underlying9 (hval 1 9 v1 rfl rfl) h1
  clear hA0 hval0
  simp only [List.append_nil] at hW'
  refine (walk x0 x1 W).mono fun e W' ⟨he, hg⟩ => ?_
  subst he
  exact ⟨_, rfl, _, _, _, [], _, [], hW', trodAll_mk1 (shut_bool Try.underlying4 _), (trodAll_cons_mk (shut_span x0 a0 b0) (trodAll_cons_mk (shut_string Try.underlying9 a1) trodAll_mk0)), rfl, hg.frame _, fun h => by cases h⟩

theorem over : Rows.keySpansRow.holds Try.pinned (OpenSpec.ofChange Rows.keySpansSpec) :=
  OpenClaim.holds_of_wide 4 Try.f4 rfl rfl rfl rfl rfl rfl rfl ⟨rfl, rfl, rfl, rfl, rfl⟩ rfl rfl rfl rfl rfl (by kernel_rfl) Try.func4 (by kernel_rfl)
    (of_decide_eq_true (by kernel_rfl)) (by unfold Func.isWrapper; first | (rw [if_pos (by decide +kernel)]; kernel_rfl) | (rw [if_neg (by decide +kernel)]; exact ⟨rfl, rfl⟩))
    (fun os started H enc _ => lifted os started H enc)

end Go.Proofs.Ytkafbjnhjmlabaa.keySpans
namespace Go.Proofs.Ytkafbjnhjmlabaa
theorem keySpans_holds : Rows.KeySpansSaid := keySpans.over
end Go.Proofs.Ytkafbjnhjmlabaa
