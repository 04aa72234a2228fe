/- NodeChains: the reference's At, the closure, the law. Condition: the library's table stands. -/
import Derived.Test.YtbcpdkmbbgcfbaaDoorNw
import Derived.Test.YtbcpdkmbbgcfbaaDoorOpenB
namespace Go.Proofs.YtbcpdkmbbgcfbaaDoor
open Go.RowKit Go.Op
set_option maxRecDepth 100000

/-- Where a row of falling numbers first isn't above a number. -/
def posOf (v : Int) : List Int → Int
  | [] => -1
  | x :: l => if x ≤ v then 0 else (if posOf v l < 0 then -1 else posOf v l + 1)
theorem posOf_ge (v : Int) : ∀ l, -1 ≤ posOf v l ∧ posOf v l < (l.length : Int)
  | [] => by simp [posOf]
  | x :: l => by
    have := posOf_ge v l
    rw [posOf]
    simp only [List.length_cons]
    split
    · omega
    · split <;> omega
theorem posOf_at (v : Int) : ∀ (l : List Int) (i : Nat), (∀ j x, j < i → l[j]? = some x → ¬ x ≤ v) → (∀ x, l[i]? = some x → x ≤ v → posOf v l = i) ∧ (l.length ≤ i → posOf v l = -1)
  | [], i, _ => ⟨fun x hx => by simp at hx, fun _ => rfl⟩
  | y :: l, 0, _ => ⟨fun x hx hv => by
      simp at hx
      subst hx
      rw [posOf, if_pos hv]; rfl, fun h => by simp at h⟩
  | y :: l, i + 1, h => by
    have h0 := h 0 y (by omega) rfl
    obtain ⟨h1, h2⟩ := posOf_at v l i fun j x hj hx => h (j + 1) x (by omega) (by simpa using hx)
    refine ⟨fun x hx hv => ?_, fun hl => ?_⟩
    · rw [posOf, if_neg h0, h1 x (by simpa using hx) hv, if_neg (by omega)]
      simp
    · rw [posOf, if_neg h0, h2 (by simpa using hl)]
      rfl
theorem found_pos (v : Int) : ∀ (l : List (Int × Rv × Int)), (posOf v (l.map fun x => x.2.1.ver) = -1 ∧ foundS v l = (sp0, 0)) ∨ ∃ (i : Nat) (x : Int × Rv × Int), l[i]? = some x ∧ posOf v (l.map fun x => x.2.1.ver) = (i : Int) ∧ foundS v l = (⟨x.1, ⟨x.2.1, x.2.2⟩⟩, 0)
  | [] => .inl ⟨rfl, rfl⟩
  | y :: l => by
    rw [List.map_cons, posOf, foundS]
    by_cases hv : y.2.1.ver ≤ v
    · rw [if_pos hv, if_pos hv]
      exact .inr ⟨0, y, rfl, rfl, rfl⟩
    · rw [if_neg hv, if_neg hv]
      rcases found_pos v l with ⟨h1, h2⟩ | ⟨i, x, h1, h2, h3⟩
      · rw [h1]
        exact .inl ⟨rfl, h2⟩
      · rw [h2, if_neg (by omega)]
        exact .inr ⟨i + 1, x, by simpa using h1, by simp, h3⟩
set_option maxHeartbeats 1000000 in
theorem refAt_any (w : World) (a : Option Addr) (cap : Nat) (l : List Int) (hl : l.length ≤ 1000) (hr : l ≠ [] → ∃ g o, a = some ⟨g, o, none⟩ ∧ w.rangeAt g o (ints l)) (v : Int) :
    Calls Tryd.prog 17 #[.slice a l.length cap, .int .i64 v] w fun e w' => e = .returned (.int .i64 (posOf v l)) ∧ w = w' := by
  obtain ⟨n, hn⟩ : ∃ n, n = l.length := ⟨_, rfl⟩
  have HN := Lib.hid hn
  have HR := Lib.hid hr
  have hn2 : (n : Int) ≤ 1000 := by omega
  rw [← hn]
  clear hn hr hl
  go_enter Tryd.func17, Tryd.ntmps17
  go_wp2_with fail
  go_loopw [5] (fun iv wr => ∃ i : Nat, iv = .int .i64 (i : Int) ∧ i ≤ n ∧ w = wr ∧ Hid (∀ j x, j < i → l[j]? = some x → ¬ x ≤ v)) (fun iv _ => n - (intOf iv).toNat)
  case atStart => exact ⟨0, rfl, Nat.zero_le _, rfl, fun j x hj => absurd hj (Nat.not_lt_zero _)⟩
  case round =>
    obtain ⟨i, rfl, hi, rfl, hX⟩ := hrel
    have hp := posOf_at v l i hX.out
    by_cases hin : i < n
    · have hin2 : (i : Int) < (n : Int) := by omega
      obtain ⟨x, hx⟩ : ∃ x, l[i]? = some x := ⟨_, List.getElem?_eq_getElem (by rw [← HN.out]; exact hin)⟩
      obtain ⟨g, o, ea, hrow⟩ := HR.out (fun e => by rw [e] at hx; simp at hx)
      have hc : w.cell? ⟨g, o + i, none⟩ = some (.int .i64 x) := hrow i _ (ints_get hx)
      by_cases hv : x ≤ v
      · have HE := Lib.hid (hp.1 x hx hv)
        subst ea
        clear hp hX HR hrow hx
        go_wp2_with fail
        go_ret
        exact ⟨by rw [HE.out]; rfl, rfl⟩
      · have HX2 : Hid (∀ j y, j < i + 1 → l[j]? = some y → ¬ y ≤ v) := fun j y hj hy => by
          by_cases e : j = i
          · subst e
            rw [hx] at hy
            cases hy
            exact hv
          · exact hX.out j y (by omega) hy
        subst ea
        clear hp hX HR hrow hx
        go_wp2_with fail
        exact ⟨⟨i + 1, rfl, by omega, by trivial, HX2⟩, by simp only [intOf]; omega⟩
    · have hin2 : ¬ (i : Int) < (n : Int) := by omega
      have HE := Lib.hid (hp.2 (by rw [← HN.out]; omega))
      clear hp hX HR
      go_wp2_with fail
      go_ret
      exact ⟨by rw [HE.out]; rfl, rfl⟩
end Go.Proofs.YtbcpdkmbbgcfbaaDoor
