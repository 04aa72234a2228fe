/- BoxHolds answers true of a box of the reference that stands for a name that is not empty, its text not above 300 bytes. -/
import Derived.Test.YtpbhjbdobpejpaaWalkI
namespace Go.Proofs.Ytpbhjbdobpejpaa
open Go.RowKit Go.Op
theorem holds_NamN_a (t : ByteArray) (w : World) : Calls Try.prog 10 #[.agg #[Bx.v (.nam t)]] w fun e w' => e = .returned (.tuple #[.int .i64 (0), .bool false]) ∧ Below w.heap.size w w' := asnum_any (.nam t) w
theorem holds_NamN_b (t : ByteArray) (w : World) : Calls Try.prog 11 #[.agg #[Bx.v (.nam t)]] w fun e w' => e = .returned (.tuple #[.string (t), .bool true]) ∧ Below w.heap.size w w' := asnam_any (.nam t) w
theorem holds_NamN_c (t : ByteArray) (w : World) : Calls Try.prog 12 #[.agg #[Bx.v (.nam t)]] w fun e w' => e = .returned (.tuple #[.string (⟨#[]⟩), .bool false]) ∧ Below w.heap.size w w' := astxt_any (.nam t) w
set_option maxHeartbeats 4000000 in
theorem holds_NamN (k n : Int) (s : ByteArray) (w : World) (t : ByteArray) (ht : t.toList.isEmpty = false) (hb : ofZ k n s = .nam t) (hs : ¬ (300 : Int) < (s.size : Int)) : Calls Try.prog 3 #[.agg #[.int .i64 k, .int .i64 n, .string s]] w fun e w' => e = .returned (.bool true) ∧ Below w.heap.size w w' := by
  have HB := Lib.hid hb
  clear hb
  go_enter Try.func3, Try.ntmps3
  go_wp2_with fail
  refine (awake_any _).mono ?_
  rintro e w1 ⟨rfl, b1⟩
  have hz := b1.size
  simp at hz
  have c0 : w1.cell? ⟨w.heap.size, 0, none⟩ = some (.int .i64 k) := keep b1 (by simp [go_sem]) (by simp)
  have c1 : w1.cell? ⟨w.heap.size, 1, none⟩ = some (.int .i64 n) := keep b1 (by simp [go_sem]) (by simp)
  have c2 : w1.cell? ⟨w.heap.size, 2, none⟩ = some (.string s) := keep b1 (by simp [go_sem]) (by simp)
  have d : decide (300 < (s.size : Int)) = false := by simpa using hs
  clear hs
  go_wp2_with fail
  refine (plain_any _ _ _ _).mono ?_
  rw [HB.out]
  rintro e w2 ⟨rfl, b2⟩
  have z2 := b2.size
  have e0 := keep b2 c0 (by omega)
  have e1 := keep b2 c1 (by omega)
  have e2 := keep b2 c2 (by omega)
  have g0 : w2.frozen? ⟨w.heap.size, 0, none⟩ = false := fkeep b2 (fkeep b1 (x := false) (by simp [go_sem]) (by simp)) (by omega)
  have g1 : w2.frozen? ⟨w.heap.size, 1, none⟩ = false := fkeep b2 (fkeep b1 (x := false) (by simp [go_sem]) (by simp)) (by omega)
  have g2 : w2.frozen? ⟨w.heap.size, 2, none⟩ = false := fkeep b2 (fkeep b1 (x := false) (by simp [go_sem]) (by simp)) (by omega)
  clear c0 c1 c2
  simp only [Bx.plain, Bx.kd, Bx.int, Bx.str]
  go_wp2_with fail
  refine (of_any _ _ _ _).mono ?_
  rintro e w3 ⟨rfl, b3⟩
  rw [show ofZ 2 0 t = .nam t from rfl]
  have z3 : w2.heap.size ≤ w3.heap.size := by have := b3.size; simpa using this
  have hw3 : w.heap.size < w3.heap.size := by omega
  have d0 : w3.cell? ⟨w.heap.size, 0, none⟩ = some (.int .i64 2) := keep b3 (by simp [go_sem, e0]) (by simp; omega)
  have d1 : w3.cell? ⟨w.heap.size, 1, none⟩ = some (.int .i64 0) := keep b3 (by simp [go_sem, e1]) (by simp; omega)
  have d2 : w3.cell? ⟨w.heap.size, 2, none⟩ = some (.string t) := keep b3 (by simp [go_sem, e2]) (by simp; omega)
  have B3 : Below w.heap.size w w3 := ((((((Below.refl _ _).alloc (Nat.le_refl _) _).trans (b1.mono (by simp))).trans (b2.mono (by omega))).setCell (by simp) _).setCell (by simp) _).setCell (by simp) _ |>.trans (b3.mono (by simp; omega))
  clear e0 e1 e2 g0 g1 g2
  have st := st_v
  go_wp2_with fail
  refine (holds_NamN_a _ _).mono ?_
  rintro e w4 ⟨rfl, b4⟩
  have z4 : w3.heap.size + 1 ≤ w4.heap.size := by have := b4.size; simpa using this
  have f0 : w4.cell? ⟨w.heap.size, 0, none⟩ = some (.int .i64 2) := keep b4 (by rw [World.cell?_alloc_past _ _ _ (by omega)]; exact d0) (by simp; omega)
  have f1 : w4.cell? ⟨w.heap.size, 1, none⟩ = some (.int .i64 0) := keep b4 (by rw [World.cell?_alloc_past _ _ _ (by omega)]; exact d1) (by simp; omega)
  have f2 : w4.cell? ⟨w.heap.size, 2, none⟩ = some (.string t) := keep b4 (by rw [World.cell?_alloc_past _ _ _ (by omega)]; exact d2) (by simp; omega)
  have f3 : w4.cell? ⟨w3.heap.size, 0, none⟩ = some (Bx.v (.nam t)) := keep b4 (by simp [go_sem]) (by simp)
  have B4 : Below w.heap.size w w4 := (B3.alloc (by omega) _).trans (b4.mono (by simp; omega))
  clear d0 d1 d2
  go_wp2_with fail
  refine (holds_NamN_b _ _).mono ?_
  rintro e w5 ⟨rfl, b5⟩
  have z5 := b5.size
  replace f0 := keep b5 f0 (by omega)
  replace f1 := keep b5 f1 (by omega)
  replace f2 := keep b5 f2 (by omega)
  replace f3 := keep b5 f3 (by omega)
  have B5 : Below w.heap.size w w5 := B4.trans (b5.mono (by omega))
  go_wp2_with fail
  refine (holds_NamN_c _ _).mono ?_
  rintro e w6 ⟨rfl, b6⟩
  have z6 := b6.size
  replace f0 := keep b6 f0 (by omega)
  replace f1 := keep b6 f1 (by omega)
  replace f2 := keep b6 f2 (by omega)
  replace f3 := keep b6 f3 (by omega)
  have B6 : Below w.heap.size w w6 := B5.trans (b6.mono (by omega))
  have F : w6.cell? ⟨w.heap.size, 0, none⟩ = some (.int .i64 2) ∧ w6.cell? ⟨w.heap.size, 1, none⟩ = some (.int .i64 0) ∧ w6.cell? ⟨w.heap.size, 2, none⟩ = some (.string t) ∧ w6.cell? ⟨w3.heap.size, 0, none⟩ = some (Bx.v (.nam t)) ∧ w3.heap.size + 1 ≤ w6.heap.size ∧ Below w.heap.size w w6 := ⟨f0, f1, f2, f3, by omega, B6⟩
  clear f0 f1 f2 f3 B6
  go_wp2_with fail
  refine wp_region_held_drew (S := fun w' => w'.cell? ⟨w.heap.size, 0, none⟩ = some (.int .i64 2) ∧ w'.cell? ⟨w.heap.size, 1, none⟩ = some (.int .i64 0) ∧ w'.cell? ⟨w.heap.size, 2, none⟩ = some (.string t) ∧ w'.cell? ⟨w3.heap.size, 0, none⟩ = some (Bx.v (.nam t)) ∧ w3.heap.size + 1 ≤ w'.heap.size ∧ Below w.heap.size w w') (by kernel_rfl) (four_drew F) (fun HS => ?_)
  refine Takes.takes [0, 2, 3] [.load 0 27 ⟨w3.heap.size, 0, none⟩ (.agg #[Bx.v (.nam t)]), .load 3 3 ⟨w.heap.size, 0, none⟩ (.int .i64 2)] 64 ⟨fun _ h => load_27 h.2.2.2.1, fun _ h => load_3 h.1, trivial⟩ (by kernel_rfl) (fun d _ _ _ _ h => by cases d <;> exact h) (by kernel_rfl) (by kernel_rfl) (by kernel_rfl) HS ?_
  refine Takes.call 1 63 (f := 13) (args := #[.agg #[Bx.v (.nam t)]]) (by kernel_rfl) rfl (by kernel_rfl) (by kernel_rfl) (by kernel_rfl) (kind_nam _ _) ?_
  rintro e w7 ⟨rfl, b7⟩
  have HS7 := four_keep hw3 HS b7
  refine ⟨_, rfl, HS7, ?_⟩
  refine Takes.takes [4, 5, 6, 7, 8, 9, 10, 11, 12, 13, 14, 15, 16, 17, 18, 19, 20, 21, 22, 23, 24, 25, 26, 27, 28, 29, 30, 31, 32, 33, 34, 35, 36, 37, 38, 39, 40, 41, 42, 43, 44, 45, 46, 47, 48, 49, 50, 51, 52, 53, 54, 55, 56, 57, 58, 59, 60, 61, 62, 63, 64, 65, 66] [.load 8 3 ⟨w.heap.size, 0, none⟩ (.int .i64 2), .load 15 3 ⟨w.heap.size, 0, none⟩ (.int .i64 2), .load 22 3 ⟨w.heap.size, 0, none⟩ (.int .i64 2), .load 29 3 ⟨w.heap.size, 1, none⟩ (.int .i64 0), .load 35 9 ⟨w.heap.size, 2, none⟩ (.string t), .load 52 9 ⟨w.heap.size, 2, none⟩ (.string t), .cmp 36 .eql 9 (.string t) (.string t) (.bool true), .cmp 53 .eql 9 (.string ⟨#[]⟩) (.string t) (.bool false), .cmp 59 .eql 9 (.string ⟨#[]⟩) (.string ⟨#[]⟩) (.bool true)] 0 ⟨fun _ h => load_3 h.1, fun _ h => load_3 h.1, fun _ h => load_3 h.1, fun _ h => load_3 h.2.1, fun _ h => load_9 h.2.2.1, fun _ h => load_9 h.2.2.1, cmp_same t, cmp_et ht, cmp_ee, trivial⟩ (by kernel_rfl) (fun d _ _ _ _ h => by cases d <;> exact h) (by kernel_rfl) (by kernel_rfl) (by kernel_rfl) HS7 ?_
  refine wpAnyH_done (by kernel_rfl) ?_ _
  refine (by assumption : ∀ (a : Act) (w : World), Code.wp Try.prog Code.ret _ a w → _) _ _ (wp_ret ?_)
  exact bodyPost_ret (v := .bool true) (by kernel_rfl) (by kernel_rfl) ⟨rfl, HS7.2.2.2.2.2⟩
end Go.Proofs.Ytpbhjbdobpejpaa
