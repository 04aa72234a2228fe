/- What a call leaves of the memory that was there: cells and marks; the reference's plain box stands for the box it was made of. No condition. -/
import Derived.Test.YtponiboiijgllaaDoorBWalkB
import Derived.Deep.RegionHeld3
namespace Go.Proofs.YtponiboiijgllaaDoor
open Go.RowKit Go.Op
set_option maxRecDepth 100000

theorem ofZ_id (b : Bx) : ofZ b.kd b.int b.str = b := by cases b <;> rfl
theorem keep {w1 w2 : World} {p : Nat} {o : Nat} {x : Value} (hb : Below w1.heap.size w1 w2) (h : w1.cell? ⟨p, o, none⟩ = some x) (hp : p < w1.heap.size) : w2.cell? ⟨p, o, none⟩ = some x := by
  rw [hb.cell (p := ⟨p, o, none⟩) hp]; exact h
theorem fkeep {w1 w2 : World} {p : Nat} {o : Nat} {x : Bool} (hb : Below w1.heap.size w1 w2) (h : w1.frozen? ⟨p, o, none⟩ = x) (hp : p < w1.heap.size) : w2.frozen? ⟨p, o, none⟩ = x := by
  rw [hb.frozen (p := ⟨p, o, none⟩) hp]; exact h

theorem kind_no (w : World) : Calls Tryd.prog 20 #[.agg #[Bx.no.v]] w fun e w' => e = .returned (.int .i64 0) ∧ Below w.heap.size w w' := kind_any .no w

theorem four_drew {w w1 : World} {p q : Nat} {x0 x1 x2 x3 : Value} (h : w1.cell? ⟨p, 0, none⟩ = some x0 ∧ w1.cell? ⟨p, 1, none⟩ = some x1 ∧ w1.cell? ⟨p, 2, none⟩ = some x2 ∧ w1.cell? ⟨q, 0, none⟩ = some x3 ∧ q + 1 ≤ w1.heap.size ∧ Below w.heap.size w w1) :
    w1.drew.cell? ⟨p, 0, none⟩ = some x0 ∧ w1.drew.cell? ⟨p, 1, none⟩ = some x1 ∧ w1.drew.cell? ⟨p, 2, none⟩ = some x2 ∧ w1.drew.cell? ⟨q, 0, none⟩ = some x3 ∧ q + 1 ≤ w1.drew.heap.size ∧ Below w.heap.size w w1.drew := by
  obtain ⟨h0, h1, h2, h3, h4, h5⟩ := h
  exact ⟨h0, h1, h2, h3, h4, h5.trans ⟨rfl, rfl, rfl, Nat.le_refl _, fun _ _ => rfl⟩⟩
theorem four_keep {w w1 w2 : World} {p q : Nat} {x0 x1 x2 x3 : Value} (hp : p < q) (h : w1.cell? ⟨p, 0, none⟩ = some x0 ∧ w1.cell? ⟨p, 1, none⟩ = some x1 ∧ w1.cell? ⟨p, 2, none⟩ = some x2 ∧ w1.cell? ⟨q, 0, none⟩ = some x3 ∧ q + 1 ≤ w1.heap.size ∧ Below w.heap.size w w1) (hb : Below w1.heap.size w1 w2) :
    w2.cell? ⟨p, 0, none⟩ = some x0 ∧ w2.cell? ⟨p, 1, none⟩ = some x1 ∧ w2.cell? ⟨p, 2, none⟩ = some x2 ∧ w2.cell? ⟨q, 0, none⟩ = some x3 ∧ q + 1 ≤ w2.heap.size ∧ Below w.heap.size w w2 := by
  obtain ⟨h0, h1, h2, h3, h4, h5⟩ := h
  exact ⟨keep hb h0 (by omega), keep hb h1 (by omega), keep hb h2 (by omega), keep hb h3 (by omega), Nat.le_trans h4 hb.size, h5.trans (hb.mono h5.size)⟩

theorem kind_num (n : Int) (w : World) : Calls Tryd.prog 20 #[.agg #[(Bx.num n).v]] w fun e w' => e = .returned (.int .i64 1) ∧ Below w.heap.size w w' := kind_any (.num n) w
theorem kind_nam (s : ByteArray) (w : World) : Calls Tryd.prog 20 #[.agg #[(Bx.nam s).v]] w fun e w' => e = .returned (.int .i64 2) ∧ Below w.heap.size w w' := kind_any (.nam s) w
theorem kind_txt (s : ByteArray) (w : World) : Calls Tryd.prog 20 #[.agg #[(Bx.txt s).v]] w fun e w' => e = .returned (.int .i64 3) ∧ Below w.heap.size w w' := kind_any (.txt s) w
end Go.Proofs.YtponiboiijgllaaDoor
