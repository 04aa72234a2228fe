/- BoxMust answers true, whatever box of the reference it is handed. No condition. -/
import Derived.Test.YtpbhjbdobpejpaaWalkG
import Derived.Test.YtpbhjbdobpejpaaWalkD
namespace Go.Proofs.Ytpbhjbdobpejpaa
open Go.RowKit Go.Op

theorem try3_any (b : Bx) (w : World) : Calls Try.prog 14 #[.agg #[b.v]] w fun e w' => e = .returned (.tuple #[.int .i64 b.int, .bool b.isNum]) ∧ Below w.heap.size w w' := by
  cases b with
  | num n => exact try3_yes n w
  | no => exact try3_no .no rfl w
  | nam s => exact try3_no (.nam s) rfl w
  | txt s => exact try3_no (.txt s) rfl w
theorem try41_any (b : Bx) (w : World) : Calls Try.prog 15 #[.agg #[b.v]] w fun e w' => e = .returned (.tuple #[.string b.name, .bool b.isNam]) ∧ Below w.heap.size w w' := by
  cases b with
  | nam s => exact try41_yes s w
  | no => exact try41_no .no rfl w
  | num s => exact try41_no (.num s) rfl w
  | txt s => exact try41_no (.txt s) rfl w
theorem try43_any (b : Bx) (w : World) : Calls Try.prog 16 #[.agg #[b.v]] w fun e w' => e = .returned (.tuple #[.string b.text, .bool b.isTxt]) ∧ Below w.heap.size w w' := by
  cases b with
  | txt s => exact try43_yes s w
  | no => exact try43_no .no rfl w
  | num s => exact try43_no (.num s) rfl w
  | nam s => exact try43_no (.nam s) rfl w

set_option maxHeartbeats 4000000 in
theorem mustLaw_any (k n : Int) (s : ByteArray) (w : World) : Calls Try.prog 4 #[.agg #[.int .i64 k, .int .i64 n, .string s]] w fun e w' => e = .returned (.bool true) ∧ Below w.heap.size w w' := by
  by_cases hs : (300 : Int) < (s.size : Int)
  · go_enter Try.func4, Try.ntmps4
    go_wp2_with fail
    refine (awake_any _).mono ?_
    rintro e w1 ⟨rfl, b1⟩
    have hz := b1.size
    simp at hz
    have c2 : w1.cell? ⟨w.heap.size, 2, none⟩ = some (.string s) := keep b1 (by simp [go_sem]) (by simp)
    go_wp2_with fail
    refine (awake_any _).mono ?_
    rintro e w2 ⟨rfl, b2⟩
    go_wp2
    go_ret
    exact ⟨rfl, ((Below.refl _ _).alloc (Nat.le_refl _) _).trans ((b1.mono (by simp)).trans (b2.mono (by omega)))⟩
  · go_enter Try.func4, Try.ntmps4
    go_wp2_with fail
    refine (awake_any _).mono ?_
    rintro e w1 ⟨rfl, b1⟩
    have hz := b1.size
    simp at hz
    have c0 : w1.cell? ⟨w.heap.size, 0, none⟩ = some (.int .i64 k) := keep b1 (by simp [go_sem]) (by simp)
    have c1 : w1.cell? ⟨w.heap.size, 1, none⟩ = some (.int .i64 n) := keep b1 (by simp [go_sem]) (by simp)
    have c2 : w1.cell? ⟨w.heap.size, 2, none⟩ = some (.string s) := keep b1 (by simp [go_sem]) (by simp)
    have d : decide (300 < (s.size : Int)) = false := by simpa using hs
    clear hs
    go_wp2_with fail
    refine (plain_any _ _ _ _).mono ?_
    generalize ofZ k n s = b
    rintro e w2 ⟨rfl, b2⟩
    have z2 := b2.size
    have e0 := keep b2 c0 (by omega)
    have e1 := keep b2 c1 (by omega)
    have e2 := keep b2 c2 (by omega)
    have g0 : w2.frozen? ⟨w.heap.size, 0, none⟩ = false := fkeep b2 (fkeep b1 (x := false) (by simp [go_sem]) (by simp)) (by omega)
    have g1 : w2.frozen? ⟨w.heap.size, 1, none⟩ = false := fkeep b2 (fkeep b1 (x := false) (by simp [go_sem]) (by simp)) (by omega)
    have g2 : w2.frozen? ⟨w.heap.size, 2, none⟩ = false := fkeep b2 (fkeep b1 (x := false) (by simp [go_sem]) (by simp)) (by omega)
    clear c0 c1 c2
    simp only [Bx.plain]
    go_wp2_with fail
    refine (of_any _ _ _ _).mono ?_
    rintro e w3 ⟨rfl, b3⟩
    rw [ofZ_id]
    have z3 : w2.heap.size ≤ w3.heap.size := by have := b3.size; simpa using this
    have hw3 : w.heap.size < w3.heap.size := by omega
    have d0 : w3.cell? ⟨w.heap.size, 0, none⟩ = some (.int .i64 b.kd) := keep b3 (by simp [go_sem, e0]) (by simp; omega)
    have d1 : w3.cell? ⟨w.heap.size, 1, none⟩ = some (.int .i64 b.int) := keep b3 (by simp [go_sem, e1]) (by simp; omega)
    have d2 : w3.cell? ⟨w.heap.size, 2, none⟩ = some (.string b.str) := keep b3 (by simp [go_sem, e2]) (by simp; omega)
    have B3 : Below w.heap.size w w3 := ((((((Below.refl _ _).alloc (Nat.le_refl _) _).trans (b1.mono (by simp))).trans (b2.mono (by omega))).setCell (by simp) _).setCell (by simp) _).setCell (by simp) _ |>.trans (b3.mono (by simp; omega))
    clear e0 e1 e2 g0 g1 g2
    have st := st_v
    go_wp2_with fail
    refine (try3_any _ _).mono ?_
    rintro e w4 ⟨rfl, b4⟩
    have z4 : w3.heap.size + 1 ≤ w4.heap.size := by have := b4.size; simpa using this
    have f0 : w4.cell? ⟨w.heap.size, 0, none⟩ = some (.int .i64 b.kd) := keep b4 (by rw [World.cell?_alloc_past _ _ _ (by omega)]; exact d0) (by simp; omega)
    have f1 : w4.cell? ⟨w.heap.size, 1, none⟩ = some (.int .i64 b.int) := keep b4 (by rw [World.cell?_alloc_past _ _ _ (by omega)]; exact d1) (by simp; omega)
    have f2 : w4.cell? ⟨w.heap.size, 2, none⟩ = some (.string b.str) := keep b4 (by rw [World.cell?_alloc_past _ _ _ (by omega)]; exact d2) (by simp; omega)
    have f3 : w4.cell? ⟨w3.heap.size, 0, none⟩ = some b.v := keep b4 (by simp [go_sem]) (by simp)
    have B4 : Below w.heap.size w w4 := (B3.alloc (by omega) _).trans (b4.mono (by simp; omega))
    clear d0 d1 d2
    go_wp2_with fail
    refine (try41_any _ _).mono ?_
    rintro e w5 ⟨rfl, b5⟩
    have z5 := b5.size
    replace f0 := keep b5 f0 (by omega)
    replace f1 := keep b5 f1 (by omega)
    replace f2 := keep b5 f2 (by omega)
    replace f3 := keep b5 f3 (by omega)
    have B5 : Below w.heap.size w w5 := B4.trans (b5.mono (by omega))
    go_wp2_with fail
    refine (try43_any _ _).mono ?_
    rintro e w6 ⟨rfl, b6⟩
    have z6 := b6.size
    replace f0 := keep b6 f0 (by omega)
    replace f1 := keep b6 f1 (by omega)
    replace f2 := keep b6 f2 (by omega)
    replace f3 := keep b6 f3 (by omega)
    have B6 : Below w.heap.size w w6 := B5.trans (b6.mono (by omega))
    cases b
    all_goals
      simp only [Bx.kd, Bx.int, Bx.str, Bx.name, Bx.text, Bx.isNum, Bx.isNam, Bx.isTxt] at f0 f1 f2 ⊢
      go_wp2
      go_ret
      exact ⟨by first | rfl | (simp; done), B6⟩
end Go.Proofs.Ytpbhjbdobpejpaa
