/- What strings.Compare, and the closure that orders entries by their keys, answer. No condition. -/
import Derived.Test.YthglldnhffkefaaSMath
import Derived.Lib.Bytealg
import Derived.Sort.Grow
import Derived.Shelf.SlSortCmp.KitK
namespace Go.Proofs.Ythglldnhffkefaa
open Go.RowKit Go.Op Go.Sort
set_option maxRecDepth 100000

theorem bytealg_compare (a b : ByteArray) (w : World) : Calls Try.prog 37 #[.string a, .string b] w fun e w' => e = .returned (.int .i64 (Lib.compareBytes a.data.toList b.data.toList)) ∧ w' = w := by
  go_enter Try.func37, Try.ntmps37
  go_wp2
  rw [run_callFunc_extern Try.func40 (by kernel_rfl) (by kernel_rfl) (by kernel_rfl) (e := Extern.BytealgCompare.compare) (by kernel_rfl), Lib.run_compareString]
  simp only [Result.andThen]
  rw [Oper.upon_value]
  go_wp2
  go_ret
  exact ⟨rfl, rfl⟩
theorem compare_any (a b : ByteArray) (w : World) : Calls Try.prog 28 #[.string a, .string b] w fun e w' => e = .returned (.int .i64 (Lib.compareBytes a.data.toList b.data.toList)) ∧ w' = w := by
  go_enter Try.func28, Try.ntmps28
  go_wp2_with fail
  refine (bytealg_compare _ _ _).mono ?_
  rintro e w1 ⟨rfl, rfl⟩
  go_wp2
  go_ret
  exact ⟨rfl, rfl⟩
theorem compareBytes_lt : ∀ a b : List UInt8, decide (Lib.compareBytes a b < 0) = bytesLess a b
  | [], [] => rfl
  | [], _ :: _ => rfl
  | _ :: _, [] => rfl
  | a :: x, b :: y => by
    have ih := compareBytes_lt x y
    unfold Lib.compareBytes bytesLess
    rcases Nat.lt_trichotomy a.toNat b.toNat with h | h | h
    · have h1 : a < b := by rw [UInt8.lt_iff_toNat_lt]; exact h
      simp [h1]
    · have h0 : a = b := UInt8.toNat_inj.1 h
      subst h0
      have h2 : ¬ a < a := by rw [UInt8.lt_iff_toNat_lt]; omega
      simpa [h2] using ih
    · have h1 : b < a := by rw [UInt8.lt_iff_toNat_lt]; exact h
      have h2 : ¬ a < b := by rw [UInt8.lt_iff_toNat_lt]; omega
      have h3 : (a == b) = false := by rw [beq_eq_false_iff_ne]; rintro rfl; omega
      simp [h1, h2, h3]
/-- How two entries stand to each other, as a number. -/
def cmpE (x y : En) : Int := Lib.compareBytes x.key.data.toList y.key.data.toList
theorem cmpE_lt (x y : En) : decide (cmpE x y < 0) = lt x.key y.key := by
  unfold cmpE
  rw [compareBytes_lt, lt_data]
theorem closure_any (x y : En) (w : World) : Calls Try.prog 27 #[x.v, y.v] w fun e w' => e = .returned (.int .i64 (cmpE x y)) ∧ ∃ q os', w' = grow (w.drewN q) os' := by
  obtain ⟨k1, v1, g1⟩ := x
  obtain ⟨k2, v2, g2⟩ := y
  simp only [En.v, cmpE]
  have hcon := fun W' => compare_any k1 k2 W'
  generalize Lib.compareBytes k1.data.toList k2.data.toList = r at hcon ⊢
  go_enter Try.func27, Try.ntmps27
  go_wp2_with fail
  refine (hcon _).mono ?_
  rintro e w1 ⟨rfl, rfl⟩
  go_wp2
  go_ret
  exact ⟨rfl, 0, _, by rw [alloc_eq_grow, alloc_eq_grow, grow_grow]; rfl⟩
end Go.Proofs.Ythglldnhffkefaa
