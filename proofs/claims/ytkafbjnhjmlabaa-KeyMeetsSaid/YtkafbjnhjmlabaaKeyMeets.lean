/- For every two spans of the reference and every text rundlelaw04.KeyMeets returns true and leaves what was there as it was: the document's examples hold, and of texts of at most 1100 bytes Meet answers what the reference answers, the same the other way round, and the text lies in it just if it lies in both. Conditions: none. -/
import Derived.Test.YtkafbjnhjmlabaaRows
import Derived.Test.YtkafbjnhjmlabaaWalkJ
import Derived.Test.YtkafbjnhjmlabaaOpen
namespace Go.Proofs.Ytkafbjnhjmlabaa.keyMeets
open Go.ChangeShapes Go.WideShapes Go.ChangeAt Go.RowKit
open Go.ChangeMaps (open_string shut_string)

theorem own : ownKnob Try.prog.godebug = none := by kernel_rfl

theorem walk (x0 : Sp) (x1 : Sp) (x2 : ByteArray) (w : World) :
    Calls Try.prog 5 #[x0.v, x1.v, .string x2] w fun e w' => e = .returned (.bool true) ∧ Below w.heap.size w w' := meetsLaw_any x0 x1 x2 w

set_option maxRecDepth 100000 in
theorem lifted (os : Os) (started : os.Started) (H : Type) (enc : TypeId × Value → H) :
    ReturnsInHanded {} Try.checked os 5 .any (Rows.keyMeetsSpec.pre6 enc Try.prog Try.f5 Rows.keyMeetsRow.domain false) (Rows.keyMeetsSpec.post enc Try.prog Try.f5 false true false false) := by
  refine returnsInHanded_of_change (C := Try.checked) own started (by kernel_rfl) Try.func5
    (ChangeSpec.witness6 (enc := enc) (C := Try.checked) false ⟨#[], #[.agg #[.string ByteArray.empty, .string ByteArray.empty, .bool false], .agg #[.string ByteArray.empty, .string ByteArray.empty, .bool false], .string ByteArray.empty], []⟩ 8 (by kernel_rfl) (by kernel_rfl) (by kernel_rfl) (by kernel_rfl)) ?_
  intro W base args ds gs before hval0 hW hcnd _
  have hval : ∀ (j : Nat) t v, Try.f5.params[j]? = some t → args[j]? = some v → Value.okWide Try.prog W .any base t v := hval0
  have hW' := hW
  obtain ⟨p, q, hA0, hV, rfl, hfz, hnd⟩ := hW
  have hA : DataW.TrodAll enc Try.prog W 0 (fun _ => true) true Try.f5.params.toList args.toList ds p := hA0
  rw [Try.params5] at hA hval
  obtain ⟨v0, vs0, d0, ds0, p0, q0, hargs, rfl, rfl, h0, r0⟩ := trodAll_cons hA
  obtain ⟨v1, vs1, d1, ds1, p1, q1, rfl, rfl, rfl, h1, r1⟩ := trodAll_cons r0
  obtain ⟨v2, vs2, d2, ds2, p2, q2, rfl, rfl, rfl, h2, r2⟩ := trodAll_cons r1
  obtain ⟨rfl, rfl, rfl⟩ := trodAll_nil r2
  obtain rfl : args = #[v0, v1, v2] := by cases args; simp_all
  obtain ⟨rfl, rfl⟩ := trodVars_none hV
  obtain ⟨x0, rfl, rfl, rfl, a0, b0⟩ := open_span (hval 0 28 v0 rfl rfl) h0
  obtain ⟨x1, rfl, rfl, rfl, a1, b1⟩ := open_span (hval 1 28 v1 rfl rfl) h1
  obtain ⟨x2, rfl, rfl, rfl, a2⟩ := open_string Try.underlying9 (hval 2 9 v2 rfl rfl) h2
  clear hA0 hval0
  simp only [List.append_nil] at hW'
  refine (walk x0 x1 x2 W).mono fun e W' ⟨he, hg⟩ => ?_
  subst he
  exact ⟨_, rfl, _, _, _, [], _, [], hW', trodAll_mk1 (shut_bool Try.underlying4 _), (trodAll_cons_mk (shut_span x0 a0 b0) (trodAll_cons_mk (shut_span x1 a1 b1) (trodAll_cons_mk (shut_string Try.underlying9 a2) trodAll_mk0))), rfl, hg.frame _, fun h => by cases h⟩

theorem over : Rows.keyMeetsRow.holds Try.pinned (OpenSpec.ofChange Rows.keyMeetsSpec) :=
  OpenClaim.holds_of_wide 5 Try.f5 rfl rfl rfl rfl rfl rfl rfl ⟨rfl, rfl, rfl, rfl, rfl⟩ rfl rfl rfl rfl rfl (by kernel_rfl) Try.func5 (by kernel_rfl)
    (of_decide_eq_true (by kernel_rfl)) (by unfold Func.isWrapper; first | (rw [if_pos (by decide +kernel)]; kernel_rfl) | (rw [if_neg (by decide +kernel)]; exact ⟨rfl, rfl⟩))
    (fun os started H enc _ => lifted os started H enc)

end Go.Proofs.Ytkafbjnhjmlabaa.keyMeets
namespace Go.Proofs.Ytkafbjnhjmlabaa
theorem keyMeets_holds : Rows.KeyMeetsSaid := keyMeets.over
end Go.Proofs.Ytkafbjnhjmlabaa
