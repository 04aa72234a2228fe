/- What the law's Short answers of one span, of two. Condition: none. -/
import Derived.Test.YtkafbjnhjmlabaaWalkA
import Derived.Handy
namespace Go.Proofs.Ytkafbjnhjmlabaa
open Go.RowKit Go.Op
set_option maxRecDepth 100000

def Sp.short (s : Sp) : Bool := decide (s.lo.size ≤ 1100) && decide (s.hi.size ≤ 1100)
/-- Where a span lies in memory. -/
def At (p o : Nat) (s : Sp) (w : World) : Prop := w.cell? ⟨p, o, none⟩ = some (.string s.lo) ∧ w.cell? ⟨p, o + 1, none⟩ = some (.string s.hi) ∧ w.cell? ⟨p, o + 2, none⟩ = some (.bool s.all)

theorem short_one (lo hi : ByteArray) (al : Bool) (g c : Nat) (w : World) (h0 : w.cell? ⟨g, 0, none⟩ = some (.string lo)) (h1 : w.cell? ⟨g, 1, none⟩ = some (.string hi)) :
    Calls Try.prog 12 #[.slice (some ⟨g, 0, none⟩) 1 c] w fun e w' => e = .returned (.int .i64 (if (⟨lo, hi, al⟩ : Sp).short then 1 else 0)) ∧ Below w.heap.size w w' := by
  by_cases g0 : lo.size ≤ 1100
  · have i0 : ¬ (1100 : Int) < (lo.size : Int) := by omega
    have d0 : decide ((1100 : Int) < (lo.size : Int)) = false := decide_eq_false i0
    by_cases g1 : hi.size ≤ 1100
    · have d1 : decide ((1100 : Int) < (hi.size : Int)) = false := decide_eq_false (by omega)
      rw [show (⟨lo, hi, al⟩ : Sp).short = true by simp [Sp.short, g0, g1]]
      clear g0 g1 i0
      go_enter Try.func12, Try.ntmps12
      go_wp2
      go_rounds 2
      go_ret
      exact ⟨rfl, Below.refl _ _⟩
    · have d1 : decide ((1100 : Int) < (hi.size : Int)) = true := decide_eq_true (by omega)
      rw [show (⟨lo, hi, al⟩ : Sp).short = false by simp [Sp.short, g0, g1]]
      clear g0 g1 i0
      go_enter Try.func12, Try.ntmps12
      go_wp2
      go_rounds 1
      go_ret
      exact ⟨rfl, Below.refl _ _⟩
  · have d0 : decide ((1100 : Int) < (lo.size : Int)) = true := decide_eq_true (by omega)
    rw [show (⟨lo, hi, al⟩ : Sp).short = false by simp [Sp.short, g0]]
    clear g0
    go_enter Try.func12, Try.ntmps12
    go_wp2
    go_rounds 1
    go_ret
    exact ⟨rfl, Below.refl _ _⟩
end Go.Proofs.Ytkafbjnhjmlabaa
