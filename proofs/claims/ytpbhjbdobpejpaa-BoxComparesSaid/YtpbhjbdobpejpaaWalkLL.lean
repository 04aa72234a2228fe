/- BoxCompares answers true of two boxes of the reference, their texts not above 300 bytes, where the first stands ahead of the second. -/
import Derived.Test.YtpbhjbdobpejpaaWalkK
namespace Go.Proofs.Ytpbhjbdobpejpaa
open Go.RowKit Go.Op
theorem cmpL_a {a b : Bx} (h : a.cmp b = -1) (w : World) : Calls Try.prog 17 #[.agg #[a.v], .agg #[b.v]] w fun e w' => e = .returned (.int .i64 (-1)) ∧ Below w.heap.size w w' := by
  have := compare_any a b w
  rw [h] at this
  exact this
theorem cmpL_b {a b : Bx} (h : a.cmp b = -1) (w : World) : Calls Try.prog 17 #[.agg #[b.v], .agg #[a.v]] w fun e w' => e = .returned (.int .i64 (1)) ∧ Below w.heap.size w w' := by
  have := compare_any b a w
  rw [bcmp_neg a b, h] at this
  exact this
theorem cmpL_r {a b : Bx} (h : a.cmp b = -1) (w : World) : Calls Try.prog 18 #[a.plain, b.plain] w fun e w' => e = .returned (.int .i64 (-1)) ∧ Below w.heap.size w w' := by
  have := ref_any a b w
  rw [h] at this
  exact this
theorem cmpL_e {a b : Bx} (h : a.cmp b = -1) (xo yo : Operand) (w : World) : (eqGuard .eql 23 xo yo a.plain b.plain).run Try.prog w = .ok () w ∧ (binOp .eql 23 a.plain b.plain).run Try.prog w = .ok (.bool false) w := by
  have := plain_eq a b xo yo w
  rw [h] at this
  exact this
set_option maxHeartbeats 4000000 in
theorem comparesL (k0 n0 : Int) (s0 : ByteArray) (k1 n1 : Int) (s1 : ByteArray) (w : World) (a b : Bx) (ha : ofZ k0 n0 s0 = a) (hb : ofZ k1 n1 s1 = b) (hc : a.cmp b = -1) (hs : ¬ (300 : Int) < (s0.size : Int)) (ht : ¬ (300 : Int) < (s1.size : Int)) :
    Calls Try.prog 5 #[.agg #[.int .i64 k0, .int .i64 n0, .string s0], .agg #[.int .i64 k1, .int .i64 n1, .string s1]] w fun e w' => e = .returned (.bool true) ∧ Below w.heap.size w w' := by
  have HA := Lib.hid ha
  have HB := Lib.hid hb
  have HC := Lib.hid hc
  clear ha hb hc
  have d0 : decide (300 < (s0.size : Int)) = false := by simpa using hs
  have d1 : decide (300 < (s1.size : Int)) = false := by simpa using ht
  clear hs ht
  go_enter Try.func5, Try.ntmps5
  go_wp2_with fail
  refine (awake_any _).mono ?_
  rintro e w1 ⟨rfl, b1⟩
  have hz := b1.size
  simp at hz
  have c0 : w1.cell? ⟨w.heap.size, 0, none⟩ = some (.int .i64 k0) := keep b1 (by simp [go_sem]) (by simp; omega)
  have c1 : w1.cell? ⟨w.heap.size, 1, none⟩ = some (.int .i64 n0) := keep b1 (by simp [go_sem]) (by simp; omega)
  have c2 : w1.cell? ⟨w.heap.size, 2, none⟩ = some (.string s0) := keep b1 (by simp [go_sem]) (by simp; omega)
  have c3 : w1.cell? ⟨w.heap.size + 1, 0, none⟩ = some (.int .i64 k1) := keep b1 (by simp [go_sem]) (by simp)
  have c4 : w1.cell? ⟨w.heap.size + 1, 1, none⟩ = some (.int .i64 n1) := keep b1 (by simp [go_sem]) (by simp)
  have c5 : w1.cell? ⟨w.heap.size + 1, 2, none⟩ = some (.string s1) := keep b1 (by simp [go_sem]) (by simp)
  have f0 : w1.frozen? ⟨w.heap.size, 0, none⟩ = false := fkeep b1 (by simp [go_sem]) (by simp; omega)
  have f1 : w1.frozen? ⟨w.heap.size, 1, none⟩ = false := fkeep b1 (by simp [go_sem]) (by simp; omega)
  have f2 : w1.frozen? ⟨w.heap.size, 2, none⟩ = false := fkeep b1 (by simp [go_sem]) (by simp; omega)
  have f3 : w1.frozen? ⟨w.heap.size + 1, 0, none⟩ = false := fkeep b1 (by simp [go_sem]) (by simp)
  have f4 : w1.frozen? ⟨w.heap.size + 1, 1, none⟩ = false := fkeep b1 (by simp [go_sem]) (by simp)
  have f5 : w1.frozen? ⟨w.heap.size + 1, 2, none⟩ = false := fkeep b1 (by simp [go_sem]) (by simp)
  go_wp2_with fail
  refine (plain_any _ _ _ _).mono ?_
  rw [HA.out]
  rintro e w2 ⟨rfl, b2⟩
  have z2 := b2.size
  replace c0 := keep b2 c0 (by omega)
  replace c1 := keep b2 c1 (by omega)
  replace c2 := keep b2 c2 (by omega)
  replace c3 := keep b2 c3 (by omega)
  replace c4 := keep b2 c4 (by omega)
  replace c5 := keep b2 c5 (by omega)
  replace f0 := fkeep b2 f0 (by omega)
  replace f1 := fkeep b2 f1 (by omega)
  replace f2 := fkeep b2 f2 (by omega)
  replace f3 := fkeep b2 f3 (by omega)
  replace f4 := fkeep b2 f4 (by omega)
  replace f5 := fkeep b2 f5 (by omega)
  have B2 : Below w.heap.size w w2 := ((((Below.refl _ _).alloc (Nat.le_refl _) _).alloc (by simp) _).trans (b1.mono (by simp; omega))).trans (b2.mono (by omega))
  clear b1 b2
  simp only [Bx.plain]
  go_wp2_with fail
  refine (plain_any _ _ _ _).mono ?_
  rw [HB.out]
  rintro e w3 ⟨rfl, b3⟩
  have z3 : w2.heap.size ≤ w3.heap.size := by have := b3.size; simpa using this
  have e0 : w3.cell? ⟨w.heap.size, 0, none⟩ = some (.int .i64 a.kd) := keep b3 (by simp [go_sem, c0]) (by simp; omega)
  have e1 : w3.cell? ⟨w.heap.size, 1, none⟩ = some (.int .i64 a.int) := keep b3 (by simp [go_sem, c1]) (by simp; omega)
  have e2 : w3.cell? ⟨w.heap.size, 2, none⟩ = some (.string a.str) := keep b3 (by simp [go_sem, c2]) (by simp; omega)
  have e3 : w3.cell? ⟨w.heap.size + 1, 0, none⟩ = some (.int .i64 k1) := keep b3 (by simp [go_sem, c3]) (by simp; omega)
  have e4 : w3.cell? ⟨w.heap.size + 1, 1, none⟩ = some (.int .i64 n1) := keep b3 (by simp [go_sem, c4]) (by simp; omega)
  have e5 : w3.cell? ⟨w.heap.size + 1, 2, none⟩ = some (.string s1) := keep b3 (by simp [go_sem, c5]) (by simp; omega)
  have g3 : w3.frozen? ⟨w.heap.size + 1, 0, none⟩ = false := fkeep b3 (by simp [go_sem, f3]) (by simp; omega)
  have g4 : w3.frozen? ⟨w.heap.size + 1, 1, none⟩ = false := fkeep b3 (by simp [go_sem, f4]) (by simp; omega)
  have g5 : w3.frozen? ⟨w.heap.size + 1, 2, none⟩ = false := fkeep b3 (by simp [go_sem, f5]) (by simp; omega)
  have B3 : Below w.heap.size w w3 := (((B2.setCell (by simp) _).setCell (by simp) _).setCell (by simp) _).trans (b3.mono (by simp; omega))
  clear c0 c1 c2 c3 c4 c5 f0 f1 f2 f3 f4 f5 b3 B2
  simp only [Bx.plain]
  go_wp2_with fail
  refine wp_region_held_drew (S := Held2 w a b) (by kernel_rfl) (Held2.drew ⟨⟨by simp [go_sem, e0], by simp [go_sem, e1], by simp [go_sem, e2]⟩, ⟨by simp [go_sem, e3], by simp [go_sem, e4], by simp [go_sem, e5]⟩, by simp; omega, ((B3.setCell (by simp) _).setCell (by simp) _).setCell (by simp) _⟩) (fun H0 => ?_)
  clear e0 e1 e2 e3 e4 e5 g3 g4 g5 B3
  refine Takes.takes [0, 2] [.load 0 23 ⟨w.heap.size, 0, none⟩ a.plain, .load 2 23 ⟨w.heap.size + 1, 0, none⟩ b.plain] 4 ⟨fun _ h => load_23 h.1, fun _ h => load_23 h.2.1, trivial⟩ (by kernel_rfl) (fun d _ _ _ _ h => by cases d <;> exact h) (by kernel_rfl) (by kernel_rfl) (by kernel_rfl) H0 ?_
  refine Takes.call 1 3 (f := 9) (args := #[a.plain]) (by kernel_rfl) rfl (by kernel_rfl) (by kernel_rfl) (by kernel_rfl) (of_plain a _) ?_
  rintro e w4 ⟨rfl, b4⟩
  have H4 := H0.keep b4
  refine ⟨_, rfl, H4, ?_⟩
  refine Takes.call 3 2 (f := 9) (args := #[b.plain]) (by kernel_rfl) rfl (by kernel_rfl) (by kernel_rfl) (by kernel_rfl) (of_plain b _) ?_
  rintro e w5 ⟨rfl, b5⟩
  have H5 := H4.keep b5
  refine ⟨_, rfl, H5, ?_⟩
  refine Takes.call 4 1 (f := 17) (args := #[.agg #[a.v], .agg #[b.v]]) (by kernel_rfl) rfl (by kernel_rfl) (by kernel_rfl) (by kernel_rfl) (cmpL_a HC.out _) ?_
  rintro e w6 ⟨rfl, b6⟩
  have H6 := H5.keep b6
  refine ⟨_, rfl, H6, ?_⟩
  refine Takes.takes [5] [] 0 trivial (by kernel_rfl) (fun d _ _ _ _ h => by cases d <;> exact h) (by kernel_rfl) (by kernel_rfl) (by kernel_rfl) H6 ?_
  refine wpAnyH_done (by kernel_rfl) ?_ _
  refine (by assumption : ∀ (a : Act) (w : World), Code.wp Try.prog _ _ a w → _) _ _ (wp_seq ?_)
  refine wp_region_held_drew (S := Held2 w a b) (by kernel_rfl) H6.drew (fun H7 => ?_)
  refine Takes.takes [0, 1, 2] [.load 1 23 ⟨w.heap.size, 0, none⟩ a.plain, .load 2 23 ⟨w.heap.size + 1, 0, none⟩ b.plain] 21 ⟨fun _ h => load_23 h.1, fun _ h => load_23 h.2.1, trivial⟩ (by kernel_rfl) (fun d _ _ _ _ h => by cases d <;> exact h) (by kernel_rfl) (by kernel_rfl) (by kernel_rfl) H7 ?_
  refine Takes.call 3 20 (f := 18) (args := #[a.plain, b.plain]) (by kernel_rfl) rfl (by kernel_rfl) (by kernel_rfl) (by kernel_rfl) (cmpL_r HC.out _) ?_
  rintro e w8 ⟨rfl, b8⟩
  have H8 := H7.keep b8
  refine ⟨_, rfl, H8, ?_⟩
  refine Takes.takes [4, 5, 6, 8, 11, 12] [.load 6 23 ⟨w.heap.size + 1, 0, none⟩ b.plain, .load 8 23 ⟨w.heap.size, 0, none⟩ a.plain] 14 ⟨fun _ h => load_23 h.2.1, fun _ h => load_23 h.1, trivial⟩ (by kernel_rfl) (fun d _ _ _ _ h => by cases d <;> exact h) (by kernel_rfl) (by kernel_rfl) (by kernel_rfl) H8 ?_
  refine Takes.call 7 13 (f := 9) (args := #[b.plain]) (by kernel_rfl) rfl (by kernel_rfl) (by kernel_rfl) (by kernel_rfl) (of_plain b _) ?_
  rintro e w9 ⟨rfl, b9⟩
  have H9 := H8.keep b9
  refine ⟨_, rfl, H9, ?_⟩
  refine Takes.call 9 12 (f := 9) (args := #[a.plain]) (by kernel_rfl) rfl (by kernel_rfl) (by kernel_rfl) (by kernel_rfl) (of_plain a _) ?_
  rintro e w10 ⟨rfl, b10⟩
  have H10 := H9.keep b10
  refine ⟨_, rfl, H10, ?_⟩
  refine Takes.call 10 11 (f := 17) (args := #[.agg #[b.v], .agg #[a.v]]) (by kernel_rfl) rfl (by kernel_rfl) (by kernel_rfl) (by kernel_rfl) (cmpL_b HC.out _) ?_
  rintro e w11 ⟨rfl, b11⟩
  have H11 := H10.keep b11
  refine ⟨_, rfl, H11, ?_⟩
  refine Takes.takes [13, 14, 15, 16, 17, 18, 19, 20, 21, 22, 23] [.load 18 23 ⟨w.heap.size, 0, none⟩ a.plain, .load 19 23 ⟨w.heap.size + 1, 0, none⟩ b.plain, .cmp 20 .eql 23 a.plain b.plain (.bool false)] 0 ⟨fun _ h => load_23 h.1, fun _ h => load_23 h.2.1, cmpL_e HC.out, trivial⟩ (by kernel_rfl) (fun d _ _ _ _ h => by cases d <;> exact h) (by kernel_rfl) (by kernel_rfl) (by kernel_rfl) H11 ?_
  refine wpAnyH_done (by kernel_rfl) ?_ _
  refine wp_ret ?_
  exact bodyPost_ret (v := .bool true) (by kernel_rfl) (by kernel_rfl) ⟨rfl, H11.2.2.2⟩
end Go.Proofs.Ytpbhjbdobpejpaa
