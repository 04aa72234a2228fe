/- What the small functions of layer 4 answer: After, Right, Fits, Has, Good, Empty, Whole, Joins, and the law's Of and Plain. Condition: After's text has at most 2000 bytes. -/
import Derived.Test.YtkafbjnhjmlabaaMath
import Derived.WalkSpells
import Derived.WalkLawsBesides
import Derived.Lib.Hide
import Derived.Lib.MinMaxS
import Derived.Below
import Derived.KernelRfl
namespace Go.Proofs.Ytkafbjnhjmlabaa
open Go.RowKit Go.Op
set_option maxRecDepth 100000

theorem ret_bool {a b : Bool} (h : a = b) : Ending.returned (.bool a) = .returned (.bool b) := by rw [h]
theorem ret_string {a b : ByteArray} (h : a = b) : Ending.returned (.string a) = .returned (.string b) := by rw [h]
theorem keep {w1 w2 : World} {p : Nat} {o : Nat} {x : Value} (hb : Below w1.heap.size w1 w2) (h : w1.cell? ⟨p, o, none⟩ = some x) (hp : p < w1.heap.size) : w2.cell? ⟨p, o, none⟩ = some x := by
  rw [hb.cell (p := ⟨p, o, none⟩) hp]; exact h
theorem fkeep {w1 w2 : World} {p : Nat} {o : Nat} {x : Bool} (hb : Below w1.heap.size w1 w2) (h : w1.frozen? ⟨p, o, none⟩ = x) (hp : p < w1.heap.size) : w2.frozen? ⟨p, o, none⟩ = x := by
  rw [hb.frozen (p := ⟨p, o, none⟩) hp]; exact h
theorem drew_below {B : Nat} {a w : World} (h : Below B a w) : Below B a w.drew := h.trans ⟨rfl, rfl, rfl, Nat.le_refl _, fun _ _ => rfl⟩

def nul : ByteArray := ⟨#[0]⟩
theorem after_any (k : ByteArray) (hk : k.size ≤ 2000) (w : World) : Calls Try.prog 24 #[.string k] w fun e w' => e = .returned (.string (k ++ ⟨#[0]⟩)) ∧ w = w' := by
  have h0 : ¬ (9223372036854775807 : Nat) < k.size + 1 := by omega
  go_enter Try.func24, Try.ntmps24
  go_wp2
  go_ret
  exact ⟨rfl, rfl⟩
theorem fits_any (k : ByteArray) (w : World) : Calls Try.prog 11 #[.string k] w fun e w' => e = .returned (.bool (decide ((k.size : Int) ≤ 65536))) ∧ w = w' := by
  go_enter Try.func11, Try.ntmps11
  go_wp2
  go_ret
  exact ⟨rfl, rfl⟩
theorem right_any (k : ByteArray) (w : World) : Calls Try.prog 10 #[.string k] w fun e w' => e = .returned (.bool (decide (0 < (k.size : Int)) && decide ((k.size : Int) ≤ 1024))) ∧ w = w' := by
  have sz : k.toList.length = k.size := by rw [ByteArray.toList_eq]; rfl
  by_cases h0 : k.size = 0
  · have e : k.toList.isEmpty = true := by rw [List.isEmpty_iff_length_eq_zero]; omega
    have h1 : decide (0 < (k.size : Int)) = false := decide_eq_false (by omega)
    rw [h1]
    clear h1 h0 sz
    go_enter Try.func10, Try.ntmps10
    go_wp2
    go_ret
    exact ⟨rfl, rfl⟩
  · have e : k.toList.isEmpty = false := by rw [Bool.eq_false_iff]; intro h; rw [List.isEmpty_iff_length_eq_zero] at h; omega
    have h1 : decide (0 < (k.size : Int)) = true := decide_eq_true (by omega)
    rw [h1]
    clear h1 h0 sz
    go_enter Try.func10, Try.ntmps10
    go_wp2
    go_ret
    exact ⟨rfl, rfl⟩
theorem good_any (s : Sp) (w : World) : Calls Try.prog 16 #[s.v] w fun e w' => e = .returned (.bool s.good) ∧ Below w.heap.size w w' := by
  obtain ⟨lo, hi, all⟩ := s
  simp only [Sp.v]
  have B := (Below.refl w.heap.size w).alloc (Nat.le_refl _) (.cells #[.string lo, .string hi, .bool all] 30)
  cases all
  · rcases tri lo hi with ⟨h1, h2, h3⟩ | ⟨h1, h2, h3⟩ | ⟨h1, h2, h3⟩
    all_goals
      have e : (⟨lo, hi, false⟩ : Sp).good = !bytesLess hi.toList lo.toList := rfl
      rw [e, h2]
      clear e
      go_enter Try.func16, Try.ntmps16
      go_wp2
      go_ret
      exact ⟨rfl, B⟩
  · go_enter Try.func16, Try.ntmps16
    go_wp2
    go_ret
    exact ⟨rfl, B⟩
theorem has_any (s : Sp) (k : ByteArray) (w : World) : Calls Try.prog 14 #[s.v, .string k] w fun e w' => e = .returned (.bool (s.has k)) ∧ Below w.heap.size w w' := by
  obtain ⟨lo, hi, all⟩ := s
  simp only [Sp.v]
  have B := (Below.refl w.heap.size w).alloc (Nat.le_refl _) (.cells #[.string lo, .string hi, .bool all] 30)
  have e : (⟨lo, hi, all⟩ : Sp).has k = (!bytesLess k.toList lo.toList && (all || bytesLess k.toList hi.toList)) := rfl
  rw [e]
  clear e
  rcases tri lo k with ⟨h1, h2, h3⟩ | ⟨h1, h2, h3⟩ | ⟨h1, h2, h3⟩
  · rw [h2]
    cases all
    · go_enter Try.func14, Try.ntmps14
      go_wp2
      go_ret
      exact ⟨rfl, B⟩
    · go_enter Try.func14, Try.ntmps14
      go_wp2
      go_ret
      exact ⟨rfl, B⟩
  · rw [h2]
    cases all
    · go_enter Try.func14, Try.ntmps14
      go_wp2
      go_ret
      exact ⟨rfl, B⟩
    · go_enter Try.func14, Try.ntmps14
      go_wp2
      go_ret
      exact ⟨rfl, B⟩
  · rw [h2]
    go_enter Try.func14, Try.ntmps14
    go_wp2
    go_ret
    exact ⟨rfl, B⟩
theorem empty_any (s : Sp) (w : World) : Calls Try.prog 18 #[s.v] w fun e w' => e = .returned (.bool s.empty) ∧ Below w.heap.size w w' := by
  rw [← empty_has]
  obtain ⟨lo, hi, all⟩ := s
  simp only [Sp.v]
  have B := (Below.refl w.heap.size w).alloc (Nat.le_refl _) (.cells #[.string lo, .string hi, .bool all] 30)
  go_enter Try.func18, Try.ntmps18
  go_wp2_with fail
  refine (has_any ⟨lo, hi, all⟩ lo _).mono ?_
  rintro e w1 ⟨rfl, b1⟩
  go_wp2
  go_ret
  exact ⟨rfl, B.trans (b1.mono (by simp))⟩
theorem whole_any (w : World) : Calls Try.prog 19 #[] w fun e w' => e = .returned whole.v ∧ Below w.heap.size w w' := by
  go_enter Try.func19, Try.ntmps19
  go_wp2
  exact bodyPost_ret (v := whole.v) (by simp [results, Try.results19, go_sem, Sp.v, whole, no]) rfl ⟨rfl, ((Below.refl _ _).alloc (Nat.le_refl _) _)⟩
theorem of_any (s : Sp) (w : World) : Calls Try.prog 13 #[s.v] w fun e w' => e = .returned s.v ∧ Below w.heap.size w w' := by
  obtain ⟨lo, hi, all⟩ := s
  simp only [Sp.v]
  go_enter Try.func13, Try.ntmps13
  go_wp2
  exact bodyPost_ret (v := (Sp.mk lo hi all).v) (by simp [results, Try.results13, go_sem, Sp.v]) rfl ⟨rfl, (((Below.refl _ _).alloc (Nat.le_refl _) _).alloc (by simp) _)⟩
theorem plain_any (s : Sp) (w : World) : Calls Try.prog 21 #[s.v] w fun e w' => e = .returned s.v ∧ Below w.heap.size w w' := by
  obtain ⟨lo, hi, all⟩ := s
  simp only [Sp.v]
  go_enter Try.func21, Try.ntmps21
  go_wp2
  exact bodyPost_ret (v := (Sp.mk lo hi all).v) (by simp [results, Try.results21, go_sem, Sp.v]) rfl ⟨rfl, (((Below.refl _ _).alloc (Nat.le_refl _) _).alloc (by simp) _)⟩
theorem joins_any (a b : Sp) (w : World) : Calls Try.prog 25 #[a.v, b.v] w fun e w' => e = .returned (.bool (a.joins b)) ∧ Below w.heap.size w w' := by
  obtain ⟨al, ah, aa⟩ := a
  obtain ⟨bl, bh, ba⟩ := b
  simp only [Sp.v]
  cases aa
  all_goals
    go_enter Try.func25, Try.ntmps25
    go_wp2
    go_ret
    exact ⟨rfl, (((Below.refl _ _).alloc (Nat.le_refl _) _).alloc (by simp) _)⟩
end Go.Proofs.Ytkafbjnhjmlabaa
