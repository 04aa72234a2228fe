/- What the small functions of layer 4 answer: Right, Fits, Has, and the law's Of. No condition. -/
import Derived.Test.YthglldnhffkefaaKMath
import Derived.WalkSpells
import Derived.WalkLawsBesides
import Derived.Lib.Hide
import Derived.Lib.MinMaxS
import Derived.Below
import Derived.KernelRfl
namespace Go.Proofs.Ythglldnhffkefaa
open Go.RowKit Go.Op
set_option maxRecDepth 100000

theorem ret_bool {a b : Bool} (h : a = b) : Ending.returned (.bool a) = .returned (.bool b) := by rw [h]
theorem ret_string {a b : ByteArray} (h : a = b) : Ending.returned (.string a) = .returned (.string b) := by rw [h]
theorem keep {w1 w2 : World} {p : Nat} {o : Nat} {x : Value} (hb : Below w1.heap.size w1 w2) (h : w1.cell? ⟨p, o, none⟩ = some x) (hp : p < w1.heap.size) : w2.cell? ⟨p, o, none⟩ = some x := by
  rw [hb.cell (p := ⟨p, o, none⟩) hp]; exact h
theorem fkeep {w1 w2 : World} {p : Nat} {o : Nat} {x : Bool} (hb : Below w1.heap.size w1 w2) (h : w1.frozen? ⟨p, o, none⟩ = x) (hp : p < w1.heap.size) : w2.frozen? ⟨p, o, none⟩ = x := by
  rw [hb.frozen (p := ⟨p, o, none⟩) hp]; exact h
theorem drew_below {B : Nat} {a w : World} (h : Below B a w) : Below B a w.drew := h.trans ⟨rfl, rfl, rfl, Nat.le_refl _, fun _ _ => rfl⟩

theorem has_any (s : Sp) (k : ByteArray) (w : World) : Calls Try.prog 31 #[s.v, .string k] w fun e w' => e = .returned (.bool (s.has k)) ∧ Below w.heap.size w w' := by
  obtain ⟨lo, hi, all⟩ := s
  simp only [Sp.v]
  have B := (Below.refl w.heap.size w).alloc (Nat.le_refl _) (.cells #[.string lo, .string hi, .bool all] 44)
  have e : (⟨lo, hi, all⟩ : Sp).has k = (!bytesLess k.toList lo.toList && (all || bytesLess k.toList hi.toList)) := rfl
  rw [e]
  clear e
  rcases tri lo k with ⟨h1, h2, h3⟩ | ⟨h1, h2, h3⟩ | ⟨h1, h2, h3⟩
  · rw [h2]
    cases all
    · go_enter Try.func31, Try.ntmps31
      go_wp2
      go_ret
      exact ⟨rfl, B⟩
    · go_enter Try.func31, Try.ntmps31
      go_wp2
      go_ret
      exact ⟨rfl, B⟩
  · rw [h2]
    cases all
    · go_enter Try.func31, Try.ntmps31
      go_wp2
      go_ret
      exact ⟨rfl, B⟩
    · go_enter Try.func31, Try.ntmps31
      go_wp2
      go_ret
      exact ⟨rfl, B⟩
  · rw [h2]
    go_enter Try.func31, Try.ntmps31
    go_wp2
    go_ret
    exact ⟨rfl, B⟩
theorem of_any (s : Sp) (w : World) : Calls Try.prog 17 #[s.v] w fun e w' => e = .returned s.v ∧ Below w.heap.size w w' := by
  obtain ⟨lo, hi, all⟩ := s
  simp only [Sp.v]
  go_enter Try.func17, Try.ntmps17
  go_wp2
  exact bodyPost_ret (v := (Sp.mk lo hi all).v) (by simp [results, Try.results17, go_sem, Sp.v]) rfl ⟨rfl, (((Below.refl _ _).alloc (Nat.le_refl _) _).alloc (by simp) _)⟩
theorem fits_any (k : ByteArray) (w : World) : Calls Try.prog 35 #[.string k] w fun e w' => e = .returned (.bool (decide ((k.size : Int) ≤ 65536))) ∧ w = w' := by
  go_enter Try.func35, Try.ntmps35
  go_wp2
  go_ret
  exact ⟨rfl, rfl⟩
theorem right_any (k : ByteArray) (w : World) : Calls Try.prog 34 #[.string k] w fun e w' => e = .returned (.bool (decide (0 < (k.size : Int)) && decide ((k.size : Int) ≤ 1024))) ∧ w = w' := by
  have sz : k.toList.length = k.size := by rw [ByteArray.toList_eq]; rfl
  by_cases h0 : k.size = 0
  · have e : k.toList.isEmpty = true := by rw [List.isEmpty_iff_length_eq_zero]; omega
    have h1 : decide (0 < (k.size : Int)) = false := decide_eq_false (by omega)
    rw [h1]
    clear h1 h0 sz
    go_enter Try.func34, Try.ntmps34
    go_wp2
    go_ret
    exact ⟨rfl, rfl⟩
  · have e : k.toList.isEmpty = false := by rw [Bool.eq_false_iff]; intro h; rw [List.isEmpty_iff_length_eq_zero] at h; omega
    have h1 : decide (0 < (k.size : Int)) = true := decide_eq_true (by omega)
    rw [h1]
    clear h1 h0 sz
    go_enter Try.func34, Try.ntmps34
    go_wp2
    go_ret
    exact ⟨rfl, rfl⟩
end Go.Proofs.Ythglldnhffkefaa
