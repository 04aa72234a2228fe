/- What the closure that tells what is gone, count, slices.IndexFunc answer of any entries, any revision. Conditions: at most 1000000 entries. -/
import Derived.Test.YtjlifkhpohfiaaaEMath
import Derived.Handy
namespace Go.Proofs.Ytjlifkhpohfiaaa
open Go.RowKit Go.Op
set_option maxRecDepth 100000

theorem gone_any (x : En) (w : World) : Calls Try.prog 53 #[x.v] w fun e w' => e = .returned (.bool x.gone) ∧ Below w.heap.size w w' := by
  obtain ⟨k, v, g⟩ := x
  simp only [En.v]
  have B := (Below.refl w.heap.size w).alloc (Nat.le_refl _) (.cells #[.string k, .string v, .bool g] 77)
  go_enter Try.func53, Try.ntmps53
  go_wp2
  go_ret
  exact ⟨rfl, B⟩
theorem count_any (R : Rm) (s : Rs) (w : World) : Calls Try.prog 43 #[R.v s] w fun e w' => e = .returned (.int .i64 (R.l.length : Int)) ∧ Below w.heap.size w w' := by
  obtain ⟨ver, rate, sp, dead, l, tab⟩ := R
  obtain ⟨ka, kc, va, vc, ga, gc, ta, tc⟩ := s
  simp only [Rm.v]
  go_enter Try.func43, Try.ntmps43
  go_wp2
  go_ret
  exact ⟨ret_i64 (by omega), (Below.refl w.heap.size w).alloc (Nat.le_refl _) _⟩
/-- The first one that is gone. -/
def goneAt (l : List En) : Nat := l.findIdx fun e => e.gone
def goneV (l : List En) : Int := if goneAt l < l.length then (goneAt l : Int) else -1
theorem gone_step {l : List En} {i : Nat} (h : i ≤ goneAt l) (hi : i < l.length) : (l[i].gone = true ∧ goneAt l = i) ∨ (l[i].gone = false ∧ i + 1 ≤ goneAt l) := by
  rcases Nat.lt_or_ge i (goneAt l) with h1 | h1
  · exact .inr ⟨by simpa using List.not_of_lt_findIdx h1, h1⟩
  · have e : goneAt l = i := by omega
    have : goneAt l < l.length := by omega
    have h2 := List.findIdx_getElem (w := this)
    subst e
    exact .inl ⟨h2, rfl⟩
theorem index_any (a : Option Addr) (l : List En) (c : Nat) (w : World) (hl : l.length ≤ 1000000) (hE : Ents w a l) :
    Calls Try.prog 62 #[.slice a l.length c, .func (.func 53) #[] #[]] w fun e w' => e = .returned (.int .i64 (goneV l)) ∧ Below w.heap.size w w' := by
  have HE := Lib.hid hE
  have HS := Lib.hid (fun i (h : i ≤ goneAt l) (hi : i < l.length) => gone_step h hi)
  have hle : goneAt l ≤ l.length := List.findIdx_le_length
  clear hE
  go_enter Try.func62, Try.ntmps62
  go_wp2
  go_loopw [8] (fun iv wr => ∃ i : Nat, i ≤ goneAt l ∧ i ≤ l.length ∧ iv = .int .i64 (i : Int) ∧ Below w.heap.size w wr) (fun iv _ => l.length - (intOf iv).toNat)
  case atStart => exact ⟨0, by omega, by omega, rfl, Below.refl _ _⟩
  case round =>
    obtain ⟨i, hi, hil, rfl, hbr⟩ := hrel
    have so := hbr.size
    by_cases h1 : i < l.length
    · have i1 : (i : Int) < (l.length : Int) := by omega
      obtain ⟨g, off, rfl, hlt, hc⟩ := HE.out.at h1
      have hc' := hc.below hbr hlt
      have hs := HS.out i hi h1
      generalize l[i] = x at hc' hs
      obtain ⟨c1, c2, c3⟩ := hc'
      have hg := fun w => gone_any x w
      obtain ⟨k, v, gn⟩ := x
      simp only [En.v] at hg c1 c2 c3 hs
      rcases hs with ⟨rfl, h3⟩ | ⟨rfl, h3⟩
      · have HX := Lib.hid h3
        clear h3
        go_wp2_with fail
        refine (hg _).mono ?_
        rintro e w1 ⟨rfl, b1⟩
        go_wp2
        go_ret
        exact ⟨ret_i64 (by have := HX.out; unfold goneV; split <;> omega), hbr.trans (b1.mono so)⟩
      · go_wp2_with fail
        refine (hg _).mono ?_
        rintro e w1 ⟨rfl, b1⟩
        go_wp2
        go_roundw
        case rel => exact ⟨i + 1, h3, by omega, by go_num, hbr.trans (b1.mono so)⟩
        case measure => simp [intOf]; omega
    · have h2 : goneAt l = l.length := by omega
      have HX := Lib.hid h2
      clear h2
      go_wp2
      go_ret
      exact ⟨ret_i64 (by have := HX.out; unfold goneV; split <;> omega), hbr⟩
end Go.Proofs.Ytjlifkhpohfiaaa
