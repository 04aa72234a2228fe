/- What runes.Unquote and the reference's answer of a text that is no right one between quotes. Condition: the text has at most 1000 bytes. -/
import Derived.Test.YtponiboiijgllaaDoorRWalkS
import Derived.Test.YtponiboiijgllaaDoorRWalkH
namespace Go.Proofs.YtponiboiijgllaaDoor
open Go.RowKit
set_option maxRecDepth 100000

/-- Why a text is no right one between quotes: the first reason. -/
inductive Bad (s : ByteArray) : Prop
  | short : s.size < 2 → Bad s
  | first (h : 2 ≤ s.size) : (s[0]'(by omega)).toNat ≠ 34 → Bad s
  | last (h : 2 ≤ s.size) : (s[0]'(by omega)).toNat = 34 → (s[s.size - 1]'(by omega)).toNat ≠ 34 → Bad s
  | right (h : 2 ≤ s.size) : (s[0]'(by omega)).toNat = 34 → (s[s.size - 1]'(by omega)).toNat = 34 → 0 ≤ rightL s.data.toList → Bad s
theorem good_or_bad (s : ByteArray) : Good s ∨ Bad s := by
  by_cases h : 2 ≤ s.size
  · by_cases h0 : (s[0]'(by omega)).toNat = 34
    · by_cases h1 : (s[s.size - 1]'(by omega)).toNat = 34
      · have := rightL_bd s.data.toList
        by_cases h2 : rightL s.data.toList = -1
        · exact .inl ⟨h, h0, h1, h2⟩
        · exact .inr (.right h h0 h1 (by omega))
      · exact .inr (.last h h0 h1)
    · exact .inr (.first h h0)
  · exact .inr (.short (by omega))

set_option maxHeartbeats 1000000 in
theorem unquote_bad (s : ByteArray) (w : World) (hs : s.size ≤ 1000000) (hb : Bad s) :
    Calls Tryd.prog 67 #[.string s] w fun e w' => e = .returned (resV none) ∧ Below w.heap.size w w' := by
  rcases hb with h | ⟨h, h0⟩ | ⟨h, h0, h1⟩ | ⟨h, h0, h1, h2⟩
  · go_enter Tryd.func67, Tryd.ntmps67
    go_wp2
    go_ret2
    exact ⟨rfl, Below.refl _ _⟩
  · have n1 : ((s.size : Int) - 1).toNat = s.size - 1 := by omega
    have t0 : (((s[0]'(by omega)).toNat : Int) != 34) = true := by simp; omega
    clear h0
    go_enter Tryd.func67, Tryd.ntmps67
    go_wp2
    go_ret2
    exact ⟨rfl, Below.refl _ _⟩
  · have n1 : ((s.size : Int) - 1).toNat = s.size - 1 := by omega
    have t0 : (((s[0]'(by omega)).toNat : Int) != 34) = false := by simp; omega
    have t1 : (((s[s.size - 1]'(by omega)).toNat : Int) != 34) = true := by simp; omega
    clear h0 h1
    go_enter Tryd.func67, Tryd.ntmps67
    go_wp2
    go_ret2
    exact ⟨rfl, Below.refl _ _⟩
  · have n1 : ((s.size : Int) - 1).toNat = s.size - 1 := by omega
    have t0 : (((s[0]'(by omega)).toNat : Int) != 34) = false := by simp; omega
    have t1 : (((s[s.size - 1]'(by omega)).toNat : Int) != 34) = false := by simp; omega
    clear h0 h1
    go_enter Tryd.func67, Tryd.ntmps67
    go_wp2_with (go_at_call 82; refine (right_any s _ (by omega)).mono ?_)
    rintro e w1 ⟨rfl, p1, rfl⟩
    go_wp2
    go_ret2
    exact ⟨rfl, below_iter (Below.refl _ w) (Nat.le_refl _) s p1⟩

set_option maxHeartbeats 1000000 in
theorem refunquote_bad (s : ByteArray) (w : World) (hs : s.size ≤ 1000000) (hb : Bad s) :
    Calls Tryd.prog 69 #[.string s] w fun e w' => e = .returned (resV none) ∧ Below w.heap.size w w' := by
  rcases hb with h | ⟨h, h0⟩ | ⟨h, h0, h1⟩ | ⟨h, h0, h1, h2⟩
  · go_enter Tryd.func69, Tryd.ntmps69
    go_wp2
    go_ret2
    exact ⟨rfl, Below.refl _ _⟩
  · have n1 : ((s.size : Int) - 1).toNat = s.size - 1 := by omega
    have t0 : (((s[0]'(by omega)).toNat : Int) != 34) = true := by simp; omega
    clear h0
    go_enter Tryd.func69, Tryd.ntmps69
    go_wp2
    go_ret2
    exact ⟨rfl, Below.refl _ _⟩
  · have n1 : ((s.size : Int) - 1).toNat = s.size - 1 := by omega
    have t0 : (((s[0]'(by omega)).toNat : Int) != 34) = false := by simp; omega
    have t1 : (((s[s.size - 1]'(by omega)).toNat : Int) != 34) = true := by simp; omega
    clear h0 h1
    go_enter Tryd.func69, Tryd.ntmps69
    go_wp2
    go_ret2
    exact ⟨rfl, Below.refl _ _⟩
  · have n1 : ((s.size : Int) - 1).toNat = s.size - 1 := by omega
    have t0 : (((s[0]'(by omega)).toNat : Int) != 34) = false := by simp; omega
    have t1 : (((s[s.size - 1]'(by omega)).toNat : Int) != 34) = false := by simp; omega
    clear h0 h1
    go_enter Tryd.func69, Tryd.ntmps69
    go_wp2_with (go_at_call 85; refine (refright_any s _ (by omega)).mono ?_; rintro e w' ⟨rfl, rfl⟩)
    go_ret2
    exact ⟨rfl, Below.refl _ _⟩

theorem unquote_any (s : ByteArray) (w : World) (hs : s.size ≤ 1000000) :
    Calls Tryd.prog 67 #[.string s] w fun e w' => ∃ o, (Good s → o = unq ((s.data.toList.drop 1).take (s.size - 2))) ∧ (Bad s → o = none) ∧ e = .returned (resV o) ∧ Below w.heap.size w w' := by
  rcases good_or_bad s with hg | hb
  · refine (unquote_good s w (by omega) hg).mono ?_
    rintro e w' ⟨rfl, hb⟩
    refine ⟨_, fun _ => rfl, fun k => ?_, rfl, hb⟩
    exfalso
    obtain ⟨g0, g1, g2, g3⟩ := hg
    rcases k with h | ⟨h, h0⟩ | ⟨h, h0, h1⟩ | ⟨h, h0, h1, h2⟩
    · omega
    · exact h0 g1
    · exact h1 g2
    · omega
  · refine (unquote_bad s w hs hb).mono ?_
    rintro e w' ⟨rfl, hbw⟩
    refine ⟨none, fun k => ?_, fun _ => rfl, rfl, hbw⟩
    exfalso
    obtain ⟨g0, g1, g2, g3⟩ := k
    rcases hb with h | ⟨h, h0⟩ | ⟨h, h0, h1⟩ | ⟨h, h0, h1, h2⟩
    · omega
    · exact h0 g1
    · exact h1 g2
    · omega
end Go.Proofs.YtponiboiijgllaaDoor
