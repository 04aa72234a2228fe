/- For every three boxes of the reference, be they such or any other kinds, numbers and texts, rundlelaw02.BoxOrder returns true and leaves what was there as it was: the document's example holds, and of texts of at most 300 bytes a box compares with itself as 0, and what stands not behind the first of two that are in order stands not behind the second. Conditions: none. -/
import Derived.Test.YtpbhjbdobpejpaaRows
import Derived.Test.YtpbhjbdobpejpaaWalkP
import Derived.Test.YtpbhjbdobpejpaaOpen
namespace Go.Proofs.Ytpbhjbdobpejpaa.boxOrder
open Go.ChangeShapes Go.WideShapes Go.ChangeAt Go.RowKit

theorem own : ownKnob Try.prog.godebug = none := by kernel_rfl

theorem walk (k0 n0 : Int) (s0 : ByteArray) (k1 n1 : Int) (s1 : ByteArray) (k2 n2 : Int) (s2 : ByteArray) (w : World) :
    Calls Try.prog 6 #[boxV k0 n0 s0, boxV k1 n1 s1, boxV k2 n2 s2] w fun e w' => e = .returned (.bool true) ∧ Below w.heap.size w w' := orderLaw_any k0 n0 s0 k1 n1 s1 k2 n2 s2 w

set_option maxRecDepth 100000 in
theorem lifted (os : Os) (started : os.Started) (H : Type) (enc : TypeId × Value → H) :
    ReturnsInHanded {} Try.checked os 6 .any (Rows.boxOrderSpec.pre6 enc Try.prog Try.f6 Rows.boxOrderRow.domain false) (Rows.boxOrderSpec.post enc Try.prog Try.f6 false true false false) := by
  refine returnsInHanded_of_change (C := Try.checked) own started (by kernel_rfl) Try.func6
    (ChangeSpec.witness6 (enc := enc) (C := Try.checked) false ⟨#[], #[.agg #[.int .i64 0, .int .i64 0, .string ByteArray.empty], .agg #[.int .i64 0, .int .i64 0, .string ByteArray.empty], .agg #[.int .i64 0, .int .i64 0, .string ByteArray.empty]], []⟩ 8 (by kernel_rfl) (by kernel_rfl) (by kernel_rfl) (by kernel_rfl)) ?_
  intro W base args ds gs before hval0 hW hcnd _
  have hval : ∀ (j : Nat) t v, Try.f6.params[j]? = some t → args[j]? = some v → Value.okWide Try.prog W .any base t v := hval0
  have hW' := hW
  obtain ⟨p, q, hA0, hV, rfl, hfz, hnd⟩ := hW
  have hA : DataW.TrodAll enc Try.prog W 0 (fun _ => true) true Try.f6.params.toList args.toList ds p := hA0
  rw [Try.params6] at hA hval
  obtain ⟨v0, vs0, d0, ds0, p0, q0, hargs, rfl, rfl, h0, r0⟩ := trodAll_cons hA
  obtain ⟨v1, vs1, d1, ds1, p1, q1, rfl, rfl, rfl, h1, r1⟩ := trodAll_cons r0
  obtain ⟨v2, vs2, d2, ds2, p2, q2, rfl, rfl, rfl, h2, r2⟩ := trodAll_cons r1
  obtain ⟨rfl, rfl, rfl⟩ := trodAll_nil r2
  obtain rfl : args = #[v0, v1, v2] := by cases args; simp_all
  obtain ⟨rfl, rfl⟩ := trodVars_none hV
  obtain ⟨k0, n0, s0, rfl, rfl, rfl, a0, b0, c0⟩ := open_box (hval 0 23 v0 rfl rfl) h0
  obtain ⟨k1, n1, s1, rfl, rfl, rfl, a1, b1, c1⟩ := open_box (hval 1 23 v1 rfl rfl) h1
  obtain ⟨k2, n2, s2, rfl, rfl, rfl, a2, b2, c2⟩ := open_box (hval 2 23 v2 rfl rfl) h2
  clear hA0 hval0
  simp only [List.append_nil] at hW'
  refine (walk k0 n0 s0 k1 n1 s1 k2 n2 s2 W).mono fun e W' ⟨he, hg⟩ => ?_
  subst he
  exact ⟨_, rfl, _, _, _, [], _, [], hW', trodAll_mk1 (shut_bool Try.underlying4 _), (trodAll_cons_mk (shut_box a0 b0 c0) (trodAll_cons_mk (shut_box a1 b1 c1) (trodAll_cons_mk (shut_box a2 b2 c2) trodAll_mk0))), rfl, hg.frame _, fun h => by cases h⟩

theorem over : Rows.boxOrderRow.holds Try.pinned (OpenSpec.ofChange Rows.boxOrderSpec) :=
  OpenClaim.holds_of_wide 6 Try.f6 rfl rfl rfl rfl rfl rfl rfl ⟨rfl, rfl, rfl, rfl, rfl⟩ rfl rfl rfl rfl rfl (by kernel_rfl) Try.func6 (by kernel_rfl)
    (of_decide_eq_true (by kernel_rfl)) (by unfold Func.isWrapper; first | (rw [if_pos (by decide +kernel)]; kernel_rfl) | (rw [if_neg (by decide +kernel)]; exact ⟨rfl, rfl⟩))
    (fun os started H enc _ => lifted os started H enc)

end Go.Proofs.Ytpbhjbdobpejpaa.boxOrder
namespace Go.Proofs.Ytpbhjbdobpejpaa
theorem boxOrder_holds : Rows.BoxOrderSaid := boxOrder.over
end Go.Proofs.Ytpbhjbdobpejpaa
