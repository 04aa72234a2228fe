/- What the small functions of layer 4 answer: After, Right, Fits, Has, Good, Empty, Whole, Joins, and the law's Of and Plain. Condition: After's text has at most 2000 bytes. -/
import Derived.Test.YtjlifkhpohfiaaaKMath
import Derived.WalkSpells
import Derived.WalkLawsBesides
import Derived.Lib.Hide
import Derived.Lib.MinMaxS
import Derived.Below
import Derived.KernelRfl
namespace Go.Proofs.Ytjlifkhpohfiaaa
open Go.RowKit Go.Op
set_option maxRecDepth 100000

theorem ret_bool {a b : Bool} (h : a = b) : Ending.returned (.bool a) = .returned (.bool b) := by rw [h]
theorem ret_string {a b : ByteArray} (h : a = b) : Ending.returned (.string a) = .returned (.string b) := by rw [h]
theorem keep {w1 w2 : World} {p : Nat} {o : Nat} {x : Value} (hb : Below w1.heap.size w1 w2) (h : w1.cell? ⟨p, o, none⟩ = some x) (hp : p < w1.heap.size) : w2.cell? ⟨p, o, none⟩ = some x := by
  rw [hb.cell (p := ⟨p, o, none⟩) hp]; exact h
theorem fkeep {w1 w2 : World} {p : Nat} {o : Nat} {x : Bool} (hb : Below w1.heap.size w1 w2) (h : w1.frozen? ⟨p, o, none⟩ = x) (hp : p < w1.heap.size) : w2.frozen? ⟨p, o, none⟩ = x := by
  rw [hb.frozen (p := ⟨p, o, none⟩) hp]; exact h
theorem drew_below {B : Nat} {a w : World} (h : Below B a w) : Below B a w.drew := h.trans ⟨rfl, rfl, rfl, Nat.le_refl _, fun _ _ => rfl⟩

theorem good_any (s : Sp) (w : World) : Calls Try.prog 50 #[s.v] w fun e w' => e = .returned (.bool s.good) ∧ Below w.heap.size w w' := by
  obtain ⟨lo, hi, all⟩ := s
  simp only [Sp.v]
  have B := (Below.refl w.heap.size w).alloc (Nat.le_refl _) (.cells #[.string lo, .string hi, .bool all] 46)
  cases all
  · rcases tri lo hi with ⟨h1, h2, h3⟩ | ⟨h1, h2, h3⟩ | ⟨h1, h2, h3⟩
    all_goals
      have e : (⟨lo, hi, false⟩ : Sp).good = !bytesLess hi.toList lo.toList := rfl
      rw [e, h2]
      clear e
      go_enter Try.func50, Try.ntmps50
      go_wp2
      go_ret
      exact ⟨rfl, B⟩
  · go_enter Try.func50, Try.ntmps50
    go_wp2
    go_ret
    exact ⟨rfl, B⟩
theorem has_any (s : Sp) (k : ByteArray) (w : World) : Calls Try.prog 58 #[s.v, .string k] w fun e w' => e = .returned (.bool (s.has k)) ∧ Below w.heap.size w w' := by
  obtain ⟨lo, hi, all⟩ := s
  simp only [Sp.v]
  have B := (Below.refl w.heap.size w).alloc (Nat.le_refl _) (.cells #[.string lo, .string hi, .bool all] 46)
  have e : (⟨lo, hi, all⟩ : Sp).has k = (!bytesLess k.toList lo.toList && (all || bytesLess k.toList hi.toList)) := rfl
  rw [e]
  clear e
  rcases tri lo k with ⟨h1, h2, h3⟩ | ⟨h1, h2, h3⟩ | ⟨h1, h2, h3⟩
  · rw [h2]
    cases all
    · go_enter Try.func58, Try.ntmps58
      go_wp2
      go_ret
      exact ⟨rfl, B⟩
    · go_enter Try.func58, Try.ntmps58
      go_wp2
      go_ret
      exact ⟨rfl, B⟩
  · rw [h2]
    cases all
    · go_enter Try.func58, Try.ntmps58
      go_wp2
      go_ret
      exact ⟨rfl, B⟩
    · go_enter Try.func58, Try.ntmps58
      go_wp2
      go_ret
      exact ⟨rfl, B⟩
  · rw [h2]
    go_enter Try.func58, Try.ntmps58
    go_wp2
    go_ret
    exact ⟨rfl, B⟩
theorem joins_any (a b : Sp) (w : World) : Calls Try.prog 51 #[a.v, b.v] w fun e w' => e = .returned (.bool (a.joins b)) ∧ Below w.heap.size w w' := by
  obtain ⟨al, ah, aa⟩ := a
  obtain ⟨bl, bh, ba⟩ := b
  simp only [Sp.v]
  cases aa
  all_goals
    go_enter Try.func51, Try.ntmps51
    go_wp2
    go_ret
    exact ⟨rfl, (((Below.refl _ _).alloc (Nat.le_refl _) _).alloc (by simp) _)⟩
end Go.Proofs.Ytjlifkhpohfiaaa
