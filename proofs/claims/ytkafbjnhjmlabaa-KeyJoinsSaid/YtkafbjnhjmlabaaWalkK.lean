/- KeyJoins answers true, whatever spans of the reference and text it is handed. No condition. -/
import Derived.Test.YtkafbjnhjmlabaaWalkJ
namespace Go.Proofs.Ytkafbjnhjmlabaa
open Go.RowKit Go.Op
set_option maxRecDepth 100000

set_option maxHeartbeats 2000000 in
theorem joins_s (lo hi : ByteArray) (al : Bool) (lo' hi' : ByteArray) (al' : Bool) (k : ByteArray) (w : World) (hs : ((Sp.mk lo hi al).short && (Sp.mk lo' hi' al').short) = false) : Calls Try.prog 8 #[.agg #[.string lo, .string hi, .bool al], .agg #[.string lo', .string hi', .bool al'], .string k] w fun e w' => e = .returned (.bool true) ∧ Below w.heap.size w w' := by
  have hsh := @short_2 lo hi al lo' hi' al' false hs
  clear hs
  go_enter Try.func8, Try.ntmps8
  go_wp2_with fail
  refine (awake_any _).mono ?_
  rintro e w1 ⟨rfl, b1⟩
  have hz := b1.size
  simp at hz
  have c0 : w1.cell? ⟨w.heap.size, 0, none⟩ = some (.string lo) := keep b1 (by simp [go_sem]) (by simp <;> omega)
  have c1 : w1.cell? ⟨w.heap.size, 1, none⟩ = some (.string hi) := keep b1 (by simp [go_sem]) (by simp <;> omega)
  have c2 : w1.cell? ⟨w.heap.size, 2, none⟩ = some (.bool al) := keep b1 (by simp [go_sem]) (by simp <;> omega)
  have d0 : w1.cell? ⟨w.heap.size + 1, 0, none⟩ = some (.string lo') := keep b1 (by simp [go_sem]) (by simp)
  have d1 : w1.cell? ⟨w.heap.size + 1, 1, none⟩ = some (.string hi') := keep b1 (by simp [go_sem]) (by simp)
  have d2 : w1.cell? ⟨w.heap.size + 1, 2, none⟩ = some (.bool al') := keep b1 (by simp [go_sem]) (by simp)
  have B1 : Below w.heap.size w w1 := (((Below.refl _ _).alloc (Nat.le_refl _) _).alloc (by simp) _).trans (b1.mono (by simp <;> omega))
  clear b1
  go_wp2_with fail
  refine (hsh _ _ _ (by simp [go_sem]) (by simp [go_sem]) (by simp [go_sem]) (by simp [go_sem])).mono ?_
  rintro e w2 ⟨rfl, b2⟩
  have hz2 := b2.size
  simp at hz2
  go_wp2_with fail
  refine (awake_any _).mono ?_
  rintro e w3 ⟨rfl, b3⟩
  go_wp2
  go_ret
  exact ⟨rfl, ((B1.alloc (by omega) _).trans (b2.mono (by simp <;> omega))).trans (b3.mono (by omega))⟩
set_option maxHeartbeats 2000000 in
theorem joins_k (lo hi : ByteArray) (al : Bool) (lo' hi' : ByteArray) (al' : Bool) (k : ByteArray) (w : World) (hs : ((Sp.mk lo hi al).short && (Sp.mk lo' hi' al').short) = true) (d9 : decide ((1100 : Int) < (k.size : Int)) = true) : Calls Try.prog 8 #[.agg #[.string lo, .string hi, .bool al], .agg #[.string lo', .string hi', .bool al'], .string k] w fun e w' => e = .returned (.bool true) ∧ Below w.heap.size w w' := by
  have hsh := @short_2 lo hi al lo' hi' al' true hs
  clear hs
  go_enter Try.func8, Try.ntmps8
  go_wp2_with fail
  refine (awake_any _).mono ?_
  rintro e w1 ⟨rfl, b1⟩
  have hz := b1.size
  simp at hz
  have c0 : w1.cell? ⟨w.heap.size, 0, none⟩ = some (.string lo) := keep b1 (by simp [go_sem]) (by simp <;> omega)
  have c1 : w1.cell? ⟨w.heap.size, 1, none⟩ = some (.string hi) := keep b1 (by simp [go_sem]) (by simp <;> omega)
  have c2 : w1.cell? ⟨w.heap.size, 2, none⟩ = some (.bool al) := keep b1 (by simp [go_sem]) (by simp <;> omega)
  have d0 : w1.cell? ⟨w.heap.size + 1, 0, none⟩ = some (.string lo') := keep b1 (by simp [go_sem]) (by simp)
  have d1 : w1.cell? ⟨w.heap.size + 1, 1, none⟩ = some (.string hi') := keep b1 (by simp [go_sem]) (by simp)
  have d2 : w1.cell? ⟨w.heap.size + 1, 2, none⟩ = some (.bool al') := keep b1 (by simp [go_sem]) (by simp)
  have B1 : Below w.heap.size w w1 := (((Below.refl _ _).alloc (Nat.le_refl _) _).alloc (by simp) _).trans (b1.mono (by simp <;> omega))
  clear b1
  go_wp2_with fail
  refine (hsh _ _ _ (by simp [go_sem]) (by simp [go_sem]) (by simp [go_sem]) (by simp [go_sem])).mono ?_
  rintro e w2 ⟨rfl, b2⟩
  have hz2 := b2.size
  simp at hz2
  go_wp2_with fail
  refine (awake_any _).mono ?_
  rintro e w3 ⟨rfl, b3⟩
  go_wp2
  go_ret
  exact ⟨rfl, ((B1.alloc (by omega) _).trans (b2.mono (by simp <;> omega))).trans (b3.mono (by omega))⟩
set_option maxHeartbeats 4000000 in
theorem joins_n1 (lo hi : ByteArray) (lo' hi' : ByteArray) (al' : Bool) (k : ByteArray) (w : World) (hs : ((Sp.mk lo hi true).short && (Sp.mk lo' hi' al').short) = true) (d9 : decide ((1100 : Int) < (k.size : Int)) = false)  : Calls Try.prog 8 #[.agg #[.string lo, .string hi, .bool true], .agg #[.string lo', .string hi', .bool al'], .string k] w fun e w' => e = .returned (.bool true) ∧ Below w.heap.size w w' := by
  have hsh := @short_2 lo hi true lo' hi' al' true hs
  clear hs
  have hjn := joins_any (Sp.mk lo hi true) ⟨lo', hi', al'⟩
  rw [show (Sp.mk lo hi true).joins ⟨lo', hi', al'⟩ = false by rfl] at hjn
  simp only [Sp.v] at hjn
  go_enter Try.func8, Try.ntmps8
  go_wp2_with fail
  refine (awake_any _).mono ?_
  rintro e w1 ⟨rfl, b1⟩
  have hz := b1.size
  simp at hz
  have c0 : w1.cell? ⟨w.heap.size, 0, none⟩ = some (.string lo) := keep b1 (by simp [go_sem]) (by simp <;> omega)
  have c1 : w1.cell? ⟨w.heap.size, 1, none⟩ = some (.string hi) := keep b1 (by simp [go_sem]) (by simp <;> omega)
  have c2 : w1.cell? ⟨w.heap.size, 2, none⟩ = some (.bool true) := keep b1 (by simp [go_sem]) (by simp <;> omega)
  have d0 : w1.cell? ⟨w.heap.size + 1, 0, none⟩ = some (.string lo') := keep b1 (by simp [go_sem]) (by simp)
  have d1 : w1.cell? ⟨w.heap.size + 1, 1, none⟩ = some (.string hi') := keep b1 (by simp [go_sem]) (by simp)
  have d2 : w1.cell? ⟨w.heap.size + 1, 2, none⟩ = some (.bool al') := keep b1 (by simp [go_sem]) (by simp)
  have B1 : Below w.heap.size w w1 := (((Below.refl _ _).alloc (Nat.le_refl _) _).alloc (by simp) _).trans (b1.mono (by simp <;> omega))
  clear b1
  go_wp2_with fail
  refine (hsh _ _ _ (by simp [go_sem]) (by simp [go_sem]) (by simp [go_sem]) (by simp [go_sem])).mono ?_
  rintro e w2 ⟨rfl, b2⟩
  have hz2 := b2.size
  simp at hz2
  have hlt : w.heap.size < w1.heap.size := by omega
  have hlt' : w.heap.size + 1 < w1.heap.size := by omega
  replace c0 : w2.cell? ⟨w.heap.size, 0, none⟩ = some (.string lo) := keep b2 (by simp [go_sem, c0, hlt]) (by simp <;> omega)
  replace c1 : w2.cell? ⟨w.heap.size, 1, none⟩ = some (.string hi) := keep b2 (by simp [go_sem, c1, hlt]) (by simp <;> omega)
  replace c2 : w2.cell? ⟨w.heap.size, 2, none⟩ = some (.bool true) := keep b2 (by simp [go_sem, c2, hlt]) (by simp <;> omega)
  replace d0 : w2.cell? ⟨w.heap.size + 1, 0, none⟩ = some (.string lo') := keep b2 (by simp [go_sem, d0, hlt']) (by simp <;> omega)
  replace d1 : w2.cell? ⟨w.heap.size + 1, 1, none⟩ = some (.string hi') := keep b2 (by simp [go_sem, d1, hlt']) (by simp <;> omega)
  replace d2 : w2.cell? ⟨w.heap.size + 1, 2, none⟩ = some (.bool al') := keep b2 (by simp [go_sem, d2, hlt']) (by simp <;> omega)
  have B2 : Below w.heap.size w w2 := (B1.alloc (by omega) _).trans (b2.mono (by simp <;> omega))
  clear b2 B1
  have hS : ∀ W1 W2 : World, (At w.heap.size 0 ⟨lo, hi, true⟩ W1 ∧ At (w.heap.size + 1) 0 ⟨lo', hi', al'⟩ W1) → Below (w.heap.size + 2) W1 W2 → (At w.heap.size 0 ⟨lo, hi, true⟩ W2 ∧ At (w.heap.size + 1) 0 ⟨lo', hi', al'⟩ W2) := fun W1 W2 h hb => ⟨h.1.keep hb (by omega), h.2.keep hb (by omega)⟩
  go_wp2_with fail
  refine Free.region_puts (S := fun W => At w.heap.size 0 ⟨lo, hi, true⟩ W ∧ At (w.heap.size + 1) 0 ⟨lo', hi', al'⟩ W) (B0 := w.heap.size + 2) (w0 := w2.drew) (om := fun _ => 0) (olds := [])
    (tab := [(0, .load 28 ⟨w.heap.size, 0, none⟩ (Sp.mk lo hi true).v), (1, .call 13 [(Sp.mk lo hi true).v] (Sp.mk lo hi true).v), (2, .load 28 ⟨w.heap.size + 1, 0, none⟩ (Sp.mk lo' hi' al').v), (3, .call 13 [(Sp.mk lo' hi' al').v] (Sp.mk lo' hi' al').v), (4, .new 30 zero.cells), (5, .new 30 zero.cells), (6, .put 30 (.own 4) (Sp.mk lo hi true).v (Sp.mk lo hi true).cells), (7, .put 30 (.own 5) (Sp.mk lo' hi' al').v (Sp.mk lo' hi' al').cells)])
    (by kernel_rfl) ⟨by kernel_rfl, ⟨fun _ h => load_28 h.1, ⟨enter_13, fun _ _ => of_any _ _⟩, fun _ h => load_28 h.2, ⟨enter_13, fun _ _ => of_any _ _⟩, new_30, new_30, put_30 _, put_30 _, trivial⟩,
      fun β => by kernel_rfl, fun β => by kernel_rfl, fun β => by kernel_rfl, by kernel_rfl, hS, by rw [drew_size]; omega, fun _ _ h => (by cases h), fun _ _ _ _ h => (by cases h)⟩
    ⟨⟨c0, c1, c2⟩, ⟨d0, d1, d2⟩⟩ rfl (fun _ _ h => (by cases h)) (fun β => [(25, (Sp.mk lo hi true).v), (26, (Sp.mk lo hi true).v), (27, (Sp.mk lo' hi' al').v), (28, (Sp.mk lo' hi' al').v), (7, .pointer (some ⟨β 4, 0, none⟩)), (8, .pointer (some ⟨β 5, 0, none⟩))]) (fun β => by kernel_rfl) ?_
  intro β w3 hAB hz3 b3 hnw hne _
  obtain ⟨q1, q2, q3⟩ := hnw 4 zero.cells rfl
  obtain ⟨r1, r2, r3⟩ := hnw 5 zero.cells rfl
  have hpr : β 4 ≠ β 5 := hne 4 5 zero.cells zero.cells rfl rfl (by decide)
  have hX : At (β 4) 0 ⟨lo, hi, true⟩ w3 := holds_at q3
  have hY : At (β 5) 0 ⟨lo', hi', al'⟩ w3 := holds_at r3
  generalize β 4 = p at q1 q2 hX hpr
  generalize β 5 = r at r1 r2 hY hpr
  rw [drew_size] at hz3 q1 r1
  have B3 : Below w.heap.size w w3 := B2.drew.trans (b3.mono (by omega))
  clear hnw hne q3 r3 b3 B2 c0 c1 c2 d0 d1 d2
  obtain ⟨⟨c0, c1, c2⟩, d0, d1, d2⟩ := hAB
  obtain ⟨x0, x1, x2⟩ := hX
  obtain ⟨y0, y1, y2⟩ := hY
  simp only [Nat.zero_add] at c1 c2 d1 d2 x1 x2 y1 y2
  unfold Free.puts
  simp only [List.foldl_cons, List.foldl_nil]
  go_wp2_with fail
  refine (hjn _).mono ?_
  rintro e w4 ⟨rfl, b4⟩
  have hz4 := b4.size
  replace c0 := keep b4 c0 (by omega)
  replace c1 := keep b4 c1 (by omega)
  replace c2 := keep b4 c2 (by omega)
  replace d0 := keep b4 d0 (by omega)
  replace d1 := keep b4 d1 (by omega)
  replace d2 := keep b4 d2 (by omega)
  replace x0 := keep b4 x0 (by omega)
  replace x1 := keep b4 x1 (by omega)
  replace x2 := keep b4 x2 (by omega)
  replace y0 := keep b4 y0 (by omega)
  replace y1 := keep b4 y1 (by omega)
  replace y2 := keep b4 y2 (by omega)
  go_wp2
  go_ret
  exact ⟨rfl, B3.trans (b4.mono (by omega))⟩
set_option maxHeartbeats 4000000 in
theorem joins_n2 (lo hi : ByteArray) (lo' hi' : ByteArray) (al' : Bool) (k : ByteArray) (w : World) (hs : ((Sp.mk lo hi false).short && (Sp.mk lo' hi' al').short) = true) (d9 : decide ((1100 : Int) < (k.size : Int)) = false) (hq : (hi.toList == lo'.toList) = false) : Calls Try.prog 8 #[.agg #[.string lo, .string hi, .bool false], .agg #[.string lo', .string hi', .bool al'], .string k] w fun e w' => e = .returned (.bool true) ∧ Below w.heap.size w w' := by
  have hsh := @short_2 lo hi false lo' hi' al' true hs
  clear hs
  have hjn := joins_any (Sp.mk lo hi false) ⟨lo', hi', al'⟩
  rw [show (Sp.mk lo hi false).joins ⟨lo', hi', al'⟩ = false by show (true && (hi.toList == lo'.toList)) = false; rw [hq]; rfl] at hjn
  simp only [Sp.v] at hjn
  go_enter Try.func8, Try.ntmps8
  go_wp2_with fail
  refine (awake_any _).mono ?_
  rintro e w1 ⟨rfl, b1⟩
  have hz := b1.size
  simp at hz
  have c0 : w1.cell? ⟨w.heap.size, 0, none⟩ = some (.string lo) := keep b1 (by simp [go_sem]) (by simp <;> omega)
  have c1 : w1.cell? ⟨w.heap.size, 1, none⟩ = some (.string hi) := keep b1 (by simp [go_sem]) (by simp <;> omega)
  have c2 : w1.cell? ⟨w.heap.size, 2, none⟩ = some (.bool false) := keep b1 (by simp [go_sem]) (by simp <;> omega)
  have d0 : w1.cell? ⟨w.heap.size + 1, 0, none⟩ = some (.string lo') := keep b1 (by simp [go_sem]) (by simp)
  have d1 : w1.cell? ⟨w.heap.size + 1, 1, none⟩ = some (.string hi') := keep b1 (by simp [go_sem]) (by simp)
  have d2 : w1.cell? ⟨w.heap.size + 1, 2, none⟩ = some (.bool al') := keep b1 (by simp [go_sem]) (by simp)
  have B1 : Below w.heap.size w w1 := (((Below.refl _ _).alloc (Nat.le_refl _) _).alloc (by simp) _).trans (b1.mono (by simp <;> omega))
  clear b1
  go_wp2_with fail
  refine (hsh _ _ _ (by simp [go_sem]) (by simp [go_sem]) (by simp [go_sem]) (by simp [go_sem])).mono ?_
  rintro e w2 ⟨rfl, b2⟩
  have hz2 := b2.size
  simp at hz2
  have hlt : w.heap.size < w1.heap.size := by omega
  have hlt' : w.heap.size + 1 < w1.heap.size := by omega
  replace c0 : w2.cell? ⟨w.heap.size, 0, none⟩ = some (.string lo) := keep b2 (by simp [go_sem, c0, hlt]) (by simp <;> omega)
  replace c1 : w2.cell? ⟨w.heap.size, 1, none⟩ = some (.string hi) := keep b2 (by simp [go_sem, c1, hlt]) (by simp <;> omega)
  replace c2 : w2.cell? ⟨w.heap.size, 2, none⟩ = some (.bool false) := keep b2 (by simp [go_sem, c2, hlt]) (by simp <;> omega)
  replace d0 : w2.cell? ⟨w.heap.size + 1, 0, none⟩ = some (.string lo') := keep b2 (by simp [go_sem, d0, hlt']) (by simp <;> omega)
  replace d1 : w2.cell? ⟨w.heap.size + 1, 1, none⟩ = some (.string hi') := keep b2 (by simp [go_sem, d1, hlt']) (by simp <;> omega)
  replace d2 : w2.cell? ⟨w.heap.size + 1, 2, none⟩ = some (.bool al') := keep b2 (by simp [go_sem, d2, hlt']) (by simp <;> omega)
  have B2 : Below w.heap.size w w2 := (B1.alloc (by omega) _).trans (b2.mono (by simp <;> omega))
  clear b2 B1
  have hS : ∀ W1 W2 : World, (At w.heap.size 0 ⟨lo, hi, false⟩ W1 ∧ At (w.heap.size + 1) 0 ⟨lo', hi', al'⟩ W1) → Below (w.heap.size + 2) W1 W2 → (At w.heap.size 0 ⟨lo, hi, false⟩ W2 ∧ At (w.heap.size + 1) 0 ⟨lo', hi', al'⟩ W2) := fun W1 W2 h hb => ⟨h.1.keep hb (by omega), h.2.keep hb (by omega)⟩
  go_wp2_with fail
  refine Free.region_puts (S := fun W => At w.heap.size 0 ⟨lo, hi, false⟩ W ∧ At (w.heap.size + 1) 0 ⟨lo', hi', al'⟩ W) (B0 := w.heap.size + 2) (w0 := w2.drew) (om := fun _ => 0) (olds := [])
    (tab := [(0, .load 28 ⟨w.heap.size, 0, none⟩ (Sp.mk lo hi false).v), (1, .call 13 [(Sp.mk lo hi false).v] (Sp.mk lo hi false).v), (2, .load 28 ⟨w.heap.size + 1, 0, none⟩ (Sp.mk lo' hi' al').v), (3, .call 13 [(Sp.mk lo' hi' al').v] (Sp.mk lo' hi' al').v), (4, .new 30 zero.cells), (5, .new 30 zero.cells), (6, .put 30 (.own 4) (Sp.mk lo hi false).v (Sp.mk lo hi false).cells), (7, .put 30 (.own 5) (Sp.mk lo' hi' al').v (Sp.mk lo' hi' al').cells)])
    (by kernel_rfl) ⟨by kernel_rfl, ⟨fun _ h => load_28 h.1, ⟨enter_13, fun _ _ => of_any _ _⟩, fun _ h => load_28 h.2, ⟨enter_13, fun _ _ => of_any _ _⟩, new_30, new_30, put_30 _, put_30 _, trivial⟩,
      fun β => by kernel_rfl, fun β => by kernel_rfl, fun β => by kernel_rfl, by kernel_rfl, hS, by rw [drew_size]; omega, fun _ _ h => (by cases h), fun _ _ _ _ h => (by cases h)⟩
    ⟨⟨c0, c1, c2⟩, ⟨d0, d1, d2⟩⟩ rfl (fun _ _ h => (by cases h)) (fun β => [(25, (Sp.mk lo hi false).v), (26, (Sp.mk lo hi false).v), (27, (Sp.mk lo' hi' al').v), (28, (Sp.mk lo' hi' al').v), (7, .pointer (some ⟨β 4, 0, none⟩)), (8, .pointer (some ⟨β 5, 0, none⟩))]) (fun β => by kernel_rfl) ?_
  intro β w3 hAB hz3 b3 hnw hne _
  obtain ⟨q1, q2, q3⟩ := hnw 4 zero.cells rfl
  obtain ⟨r1, r2, r3⟩ := hnw 5 zero.cells rfl
  have hpr : β 4 ≠ β 5 := hne 4 5 zero.cells zero.cells rfl rfl (by decide)
  have hX : At (β 4) 0 ⟨lo, hi, false⟩ w3 := holds_at q3
  have hY : At (β 5) 0 ⟨lo', hi', al'⟩ w3 := holds_at r3
  generalize β 4 = p at q1 q2 hX hpr
  generalize β 5 = r at r1 r2 hY hpr
  rw [drew_size] at hz3 q1 r1
  have B3 : Below w.heap.size w w3 := B2.drew.trans (b3.mono (by omega))
  clear hnw hne q3 r3 b3 B2 c0 c1 c2 d0 d1 d2
  obtain ⟨⟨c0, c1, c2⟩, d0, d1, d2⟩ := hAB
  obtain ⟨x0, x1, x2⟩ := hX
  obtain ⟨y0, y1, y2⟩ := hY
  simp only [Nat.zero_add] at c1 c2 d1 d2 x1 x2 y1 y2
  unfold Free.puts
  simp only [List.foldl_cons, List.foldl_nil]
  go_wp2_with fail
  refine (hjn _).mono ?_
  rintro e w4 ⟨rfl, b4⟩
  have hz4 := b4.size
  replace c0 := keep b4 c0 (by omega)
  replace c1 := keep b4 c1 (by omega)
  replace c2 := keep b4 c2 (by omega)
  replace d0 := keep b4 d0 (by omega)
  replace d1 := keep b4 d1 (by omega)
  replace d2 := keep b4 d2 (by omega)
  replace x0 := keep b4 x0 (by omega)
  replace x1 := keep b4 x1 (by omega)
  replace x2 := keep b4 x2 (by omega)
  replace y0 := keep b4 y0 (by omega)
  replace y1 := keep b4 y1 (by omega)
  replace y2 := keep b4 y2 (by omega)
  go_wp2
  go_ret
  exact ⟨rfl, B3.trans (b4.mono (by omega))⟩
set_option maxHeartbeats 4000000 in
theorem joins_g1 (lo hi : ByteArray) (lo' hi' : ByteArray) (al' : Bool) (k : ByteArray) (w : World) (hs : ((Sp.mk lo hi false).short && (Sp.mk lo' hi' al').short) = true) (d9 : decide ((1100 : Int) < (k.size : Int)) = false) (hq : (hi.toList == lo'.toList) = true) (hgA : (Sp.mk lo hi false).good = false) : Calls Try.prog 8 #[.agg #[.string lo, .string hi, .bool false], .agg #[.string lo', .string hi', .bool al'], .string k] w fun e w' => e = .returned (.bool true) ∧ Below w.heap.size w w' := by
  have hsh := @short_2 lo hi false lo' hi' al' true hs
  clear hs
  have hjn := joins_any (Sp.mk lo hi false) ⟨lo', hi', al'⟩
  rw [show (Sp.mk lo hi false).joins ⟨lo', hi', al'⟩ = true by show (true && (hi.toList == lo'.toList)) = true; rw [hq]; rfl] at hjn
  have hga := good_any (Sp.mk lo hi false)
  rw [hgA] at hga
  simp only [Sp.v] at hjn hga
  clear hgA
  go_enter Try.func8, Try.ntmps8
  go_wp2_with fail
  refine (awake_any _).mono ?_
  rintro e w1 ⟨rfl, b1⟩
  have hz := b1.size
  simp at hz
  have c0 : w1.cell? ⟨w.heap.size, 0, none⟩ = some (.string lo) := keep b1 (by simp [go_sem]) (by simp <;> omega)
  have c1 : w1.cell? ⟨w.heap.size, 1, none⟩ = some (.string hi) := keep b1 (by simp [go_sem]) (by simp <;> omega)
  have c2 : w1.cell? ⟨w.heap.size, 2, none⟩ = some (.bool false) := keep b1 (by simp [go_sem]) (by simp <;> omega)
  have d0 : w1.cell? ⟨w.heap.size + 1, 0, none⟩ = some (.string lo') := keep b1 (by simp [go_sem]) (by simp)
  have d1 : w1.cell? ⟨w.heap.size + 1, 1, none⟩ = some (.string hi') := keep b1 (by simp [go_sem]) (by simp)
  have d2 : w1.cell? ⟨w.heap.size + 1, 2, none⟩ = some (.bool al') := keep b1 (by simp [go_sem]) (by simp)
  have B1 : Below w.heap.size w w1 := (((Below.refl _ _).alloc (Nat.le_refl _) _).alloc (by simp) _).trans (b1.mono (by simp <;> omega))
  clear b1
  go_wp2_with fail
  refine (hsh _ _ _ (by simp [go_sem]) (by simp [go_sem]) (by simp [go_sem]) (by simp [go_sem])).mono ?_
  rintro e w2 ⟨rfl, b2⟩
  have hz2 := b2.size
  simp at hz2
  have hlt : w.heap.size < w1.heap.size := by omega
  have hlt' : w.heap.size + 1 < w1.heap.size := by omega
  replace c0 : w2.cell? ⟨w.heap.size, 0, none⟩ = some (.string lo) := keep b2 (by simp [go_sem, c0, hlt]) (by simp <;> omega)
  replace c1 : w2.cell? ⟨w.heap.size, 1, none⟩ = some (.string hi) := keep b2 (by simp [go_sem, c1, hlt]) (by simp <;> omega)
  replace c2 : w2.cell? ⟨w.heap.size, 2, none⟩ = some (.bool false) := keep b2 (by simp [go_sem, c2, hlt]) (by simp <;> omega)
  replace d0 : w2.cell? ⟨w.heap.size + 1, 0, none⟩ = some (.string lo') := keep b2 (by simp [go_sem, d0, hlt']) (by simp <;> omega)
  replace d1 : w2.cell? ⟨w.heap.size + 1, 1, none⟩ = some (.string hi') := keep b2 (by simp [go_sem, d1, hlt']) (by simp <;> omega)
  replace d2 : w2.cell? ⟨w.heap.size + 1, 2, none⟩ = some (.bool al') := keep b2 (by simp [go_sem, d2, hlt']) (by simp <;> omega)
  have B2 : Below w.heap.size w w2 := (B1.alloc (by omega) _).trans (b2.mono (by simp <;> omega))
  clear b2 B1
  have hS : ∀ W1 W2 : World, (At w.heap.size 0 ⟨lo, hi, false⟩ W1 ∧ At (w.heap.size + 1) 0 ⟨lo', hi', al'⟩ W1) → Below (w.heap.size + 2) W1 W2 → (At w.heap.size 0 ⟨lo, hi, false⟩ W2 ∧ At (w.heap.size + 1) 0 ⟨lo', hi', al'⟩ W2) := fun W1 W2 h hb => ⟨h.1.keep hb (by omega), h.2.keep hb (by omega)⟩
  go_wp2_with fail
  refine Free.region_puts (S := fun W => At w.heap.size 0 ⟨lo, hi, false⟩ W ∧ At (w.heap.size + 1) 0 ⟨lo', hi', al'⟩ W) (B0 := w.heap.size + 2) (w0 := w2.drew) (om := fun _ => 0) (olds := [])
    (tab := [(0, .load 28 ⟨w.heap.size, 0, none⟩ (Sp.mk lo hi false).v), (1, .call 13 [(Sp.mk lo hi false).v] (Sp.mk lo hi false).v), (2, .load 28 ⟨w.heap.size + 1, 0, none⟩ (Sp.mk lo' hi' al').v), (3, .call 13 [(Sp.mk lo' hi' al').v] (Sp.mk lo' hi' al').v), (4, .new 30 zero.cells), (5, .new 30 zero.cells), (6, .put 30 (.own 4) (Sp.mk lo hi false).v (Sp.mk lo hi false).cells), (7, .put 30 (.own 5) (Sp.mk lo' hi' al').v (Sp.mk lo' hi' al').cells)])
    (by kernel_rfl) ⟨by kernel_rfl, ⟨fun _ h => load_28 h.1, ⟨enter_13, fun _ _ => of_any _ _⟩, fun _ h => load_28 h.2, ⟨enter_13, fun _ _ => of_any _ _⟩, new_30, new_30, put_30 _, put_30 _, trivial⟩,
      fun β => by kernel_rfl, fun β => by kernel_rfl, fun β => by kernel_rfl, by kernel_rfl, hS, by rw [drew_size]; omega, fun _ _ h => (by cases h), fun _ _ _ _ h => (by cases h)⟩
    ⟨⟨c0, c1, c2⟩, ⟨d0, d1, d2⟩⟩ rfl (fun _ _ h => (by cases h)) (fun β => [(25, (Sp.mk lo hi false).v), (26, (Sp.mk lo hi false).v), (27, (Sp.mk lo' hi' al').v), (28, (Sp.mk lo' hi' al').v), (7, .pointer (some ⟨β 4, 0, none⟩)), (8, .pointer (some ⟨β 5, 0, none⟩))]) (fun β => by kernel_rfl) ?_
  intro β w3 hAB hz3 b3 hnw hne _
  obtain ⟨q1, q2, q3⟩ := hnw 4 zero.cells rfl
  obtain ⟨r1, r2, r3⟩ := hnw 5 zero.cells rfl
  have hpr : β 4 ≠ β 5 := hne 4 5 zero.cells zero.cells rfl rfl (by decide)
  have hX : At (β 4) 0 ⟨lo, hi, false⟩ w3 := holds_at q3
  have hY : At (β 5) 0 ⟨lo', hi', al'⟩ w3 := holds_at r3
  generalize β 4 = p at q1 q2 hX hpr
  generalize β 5 = r at r1 r2 hY hpr
  rw [drew_size] at hz3 q1 r1
  have B3 : Below w.heap.size w w3 := B2.drew.trans (b3.mono (by omega))
  clear hnw hne q3 r3 b3 B2 c0 c1 c2 d0 d1 d2
  obtain ⟨⟨c0, c1, c2⟩, d0, d1, d2⟩ := hAB
  obtain ⟨x0, x1, x2⟩ := hX
  obtain ⟨y0, y1, y2⟩ := hY
  simp only [Nat.zero_add] at c1 c2 d1 d2 x1 x2 y1 y2
  unfold Free.puts
  simp only [List.foldl_cons, List.foldl_nil]
  go_wp2_with fail
  refine (hjn _).mono ?_
  rintro e w4 ⟨rfl, b4⟩
  have hz4 := b4.size
  replace c0 := keep b4 c0 (by omega)
  replace c1 := keep b4 c1 (by omega)
  replace c2 := keep b4 c2 (by omega)
  replace d0 := keep b4 d0 (by omega)
  replace d1 := keep b4 d1 (by omega)
  replace d2 := keep b4 d2 (by omega)
  replace x0 := keep b4 x0 (by omega)
  replace x1 := keep b4 x1 (by omega)
  replace x2 := keep b4 x2 (by omega)
  replace y0 := keep b4 y0 (by omega)
  replace y1 := keep b4 y1 (by omega)
  replace y2 := keep b4 y2 (by omega)
  go_wp2_with fail
  refine (hga _).mono ?_
  rintro e w5 ⟨rfl, b5⟩
  have hz5 := b5.size
  replace c0 := keep b5 c0 (by omega)
  replace c1 := keep b5 c1 (by omega)
  replace c2 := keep b5 c2 (by omega)
  replace d0 := keep b5 d0 (by omega)
  replace d1 := keep b5 d1 (by omega)
  replace d2 := keep b5 d2 (by omega)
  replace x0 := keep b5 x0 (by omega)
  replace x1 := keep b5 x1 (by omega)
  replace x2 := keep b5 x2 (by omega)
  replace y0 := keep b5 y0 (by omega)
  replace y1 := keep b5 y1 (by omega)
  replace y2 := keep b5 y2 (by omega)
  go_wp2
  go_ret
  exact ⟨rfl, (B3.trans (b4.mono (by omega))).trans (b5.mono (by omega))⟩
set_option maxHeartbeats 4000000 in
theorem joins_g2 (lo hi : ByteArray) (lo' hi' : ByteArray) (al' : Bool) (k : ByteArray) (w : World) (hs : ((Sp.mk lo hi false).short && (Sp.mk lo' hi' al').short) = true) (d9 : decide ((1100 : Int) < (k.size : Int)) = false) (hq : (hi.toList == lo'.toList) = true) (hgA : (Sp.mk lo hi false).good = true) (hgB : (Sp.mk lo' hi' al').good = false) : Calls Try.prog 8 #[.agg #[.string lo, .string hi, .bool false], .agg #[.string lo', .string hi', .bool al'], .string k] w fun e w' => e = .returned (.bool true) ∧ Below w.heap.size w w' := by
  have hsh := @short_2 lo hi false lo' hi' al' true hs
  clear hs
  have hjn := joins_any (Sp.mk lo hi false) ⟨lo', hi', al'⟩
  rw [show (Sp.mk lo hi false).joins ⟨lo', hi', al'⟩ = true by show (true && (hi.toList == lo'.toList)) = true; rw [hq]; rfl] at hjn
  have hga := good_any (Sp.mk lo hi false)
  rw [hgA] at hga
  simp only [Sp.v] at hjn hga
  have hgb := good_any ⟨lo', hi', al'⟩
  rw [hgB] at hgb
  simp only [Sp.v] at hgb
  clear hgA hgB
  go_enter Try.func8, Try.ntmps8
  go_wp2_with fail
  refine (awake_any _).mono ?_
  rintro e w1 ⟨rfl, b1⟩
  have hz := b1.size
  simp at hz
  have c0 : w1.cell? ⟨w.heap.size, 0, none⟩ = some (.string lo) := keep b1 (by simp [go_sem]) (by simp <;> omega)
  have c1 : w1.cell? ⟨w.heap.size, 1, none⟩ = some (.string hi) := keep b1 (by simp [go_sem]) (by simp <;> omega)
  have c2 : w1.cell? ⟨w.heap.size, 2, none⟩ = some (.bool false) := keep b1 (by simp [go_sem]) (by simp <;> omega)
  have d0 : w1.cell? ⟨w.heap.size + 1, 0, none⟩ = some (.string lo') := keep b1 (by simp [go_sem]) (by simp)
  have d1 : w1.cell? ⟨w.heap.size + 1, 1, none⟩ = some (.string hi') := keep b1 (by simp [go_sem]) (by simp)
  have d2 : w1.cell? ⟨w.heap.size + 1, 2, none⟩ = some (.bool al') := keep b1 (by simp [go_sem]) (by simp)
  have B1 : Below w.heap.size w w1 := (((Below.refl _ _).alloc (Nat.le_refl _) _).alloc (by simp) _).trans (b1.mono (by simp <;> omega))
  clear b1
  go_wp2_with fail
  refine (hsh _ _ _ (by simp [go_sem]) (by simp [go_sem]) (by simp [go_sem]) (by simp [go_sem])).mono ?_
  rintro e w2 ⟨rfl, b2⟩
  have hz2 := b2.size
  simp at hz2
  have hlt : w.heap.size < w1.heap.size := by omega
  have hlt' : w.heap.size + 1 < w1.heap.size := by omega
  replace c0 : w2.cell? ⟨w.heap.size, 0, none⟩ = some (.string lo) := keep b2 (by simp [go_sem, c0, hlt]) (by simp <;> omega)
  replace c1 : w2.cell? ⟨w.heap.size, 1, none⟩ = some (.string hi) := keep b2 (by simp [go_sem, c1, hlt]) (by simp <;> omega)
  replace c2 : w2.cell? ⟨w.heap.size, 2, none⟩ = some (.bool false) := keep b2 (by simp [go_sem, c2, hlt]) (by simp <;> omega)
  replace d0 : w2.cell? ⟨w.heap.size + 1, 0, none⟩ = some (.string lo') := keep b2 (by simp [go_sem, d0, hlt']) (by simp <;> omega)
  replace d1 : w2.cell? ⟨w.heap.size + 1, 1, none⟩ = some (.string hi') := keep b2 (by simp [go_sem, d1, hlt']) (by simp <;> omega)
  replace d2 : w2.cell? ⟨w.heap.size + 1, 2, none⟩ = some (.bool al') := keep b2 (by simp [go_sem, d2, hlt']) (by simp <;> omega)
  have B2 : Below w.heap.size w w2 := (B1.alloc (by omega) _).trans (b2.mono (by simp <;> omega))
  clear b2 B1
  have hS : ∀ W1 W2 : World, (At w.heap.size 0 ⟨lo, hi, false⟩ W1 ∧ At (w.heap.size + 1) 0 ⟨lo', hi', al'⟩ W1) → Below (w.heap.size + 2) W1 W2 → (At w.heap.size 0 ⟨lo, hi, false⟩ W2 ∧ At (w.heap.size + 1) 0 ⟨lo', hi', al'⟩ W2) := fun W1 W2 h hb => ⟨h.1.keep hb (by omega), h.2.keep hb (by omega)⟩
  go_wp2_with fail
  refine Free.region_puts (S := fun W => At w.heap.size 0 ⟨lo, hi, false⟩ W ∧ At (w.heap.size + 1) 0 ⟨lo', hi', al'⟩ W) (B0 := w.heap.size + 2) (w0 := w2.drew) (om := fun _ => 0) (olds := [])
    (tab := [(0, .load 28 ⟨w.heap.size, 0, none⟩ (Sp.mk lo hi false).v), (1, .call 13 [(Sp.mk lo hi false).v] (Sp.mk lo hi false).v), (2, .load 28 ⟨w.heap.size + 1, 0, none⟩ (Sp.mk lo' hi' al').v), (3, .call 13 [(Sp.mk lo' hi' al').v] (Sp.mk lo' hi' al').v), (4, .new 30 zero.cells), (5, .new 30 zero.cells), (6, .put 30 (.own 4) (Sp.mk lo hi false).v (Sp.mk lo hi false).cells), (7, .put 30 (.own 5) (Sp.mk lo' hi' al').v (Sp.mk lo' hi' al').cells)])
    (by kernel_rfl) ⟨by kernel_rfl, ⟨fun _ h => load_28 h.1, ⟨enter_13, fun _ _ => of_any _ _⟩, fun _ h => load_28 h.2, ⟨enter_13, fun _ _ => of_any _ _⟩, new_30, new_30, put_30 _, put_30 _, trivial⟩,
      fun β => by kernel_rfl, fun β => by kernel_rfl, fun β => by kernel_rfl, by kernel_rfl, hS, by rw [drew_size]; omega, fun _ _ h => (by cases h), fun _ _ _ _ h => (by cases h)⟩
    ⟨⟨c0, c1, c2⟩, ⟨d0, d1, d2⟩⟩ rfl (fun _ _ h => (by cases h)) (fun β => [(25, (Sp.mk lo hi false).v), (26, (Sp.mk lo hi false).v), (27, (Sp.mk lo' hi' al').v), (28, (Sp.mk lo' hi' al').v), (7, .pointer (some ⟨β 4, 0, none⟩)), (8, .pointer (some ⟨β 5, 0, none⟩))]) (fun β => by kernel_rfl) ?_
  intro β w3 hAB hz3 b3 hnw hne _
  obtain ⟨q1, q2, q3⟩ := hnw 4 zero.cells rfl
  obtain ⟨r1, r2, r3⟩ := hnw 5 zero.cells rfl
  have hpr : β 4 ≠ β 5 := hne 4 5 zero.cells zero.cells rfl rfl (by decide)
  have hX : At (β 4) 0 ⟨lo, hi, false⟩ w3 := holds_at q3
  have hY : At (β 5) 0 ⟨lo', hi', al'⟩ w3 := holds_at r3
  generalize β 4 = p at q1 q2 hX hpr
  generalize β 5 = r at r1 r2 hY hpr
  rw [drew_size] at hz3 q1 r1
  have B3 : Below w.heap.size w w3 := B2.drew.trans (b3.mono (by omega))
  clear hnw hne q3 r3 b3 B2 c0 c1 c2 d0 d1 d2
  obtain ⟨⟨c0, c1, c2⟩, d0, d1, d2⟩ := hAB
  obtain ⟨x0, x1, x2⟩ := hX
  obtain ⟨y0, y1, y2⟩ := hY
  simp only [Nat.zero_add] at c1 c2 d1 d2 x1 x2 y1 y2
  unfold Free.puts
  simp only [List.foldl_cons, List.foldl_nil]
  go_wp2_with fail
  refine (hjn _).mono ?_
  rintro e w4 ⟨rfl, b4⟩
  have hz4 := b4.size
  replace c0 := keep b4 c0 (by omega)
  replace c1 := keep b4 c1 (by omega)
  replace c2 := keep b4 c2 (by omega)
  replace d0 := keep b4 d0 (by omega)
  replace d1 := keep b4 d1 (by omega)
  replace d2 := keep b4 d2 (by omega)
  replace x0 := keep b4 x0 (by omega)
  replace x1 := keep b4 x1 (by omega)
  replace x2 := keep b4 x2 (by omega)
  replace y0 := keep b4 y0 (by omega)
  replace y1 := keep b4 y1 (by omega)
  replace y2 := keep b4 y2 (by omega)
  go_wp2_with fail
  refine (hga _).mono ?_
  rintro e w5 ⟨rfl, b5⟩
  have hz5 := b5.size
  replace c0 := keep b5 c0 (by omega)
  replace c1 := keep b5 c1 (by omega)
  replace c2 := keep b5 c2 (by omega)
  replace d0 := keep b5 d0 (by omega)
  replace d1 := keep b5 d1 (by omega)
  replace d2 := keep b5 d2 (by omega)
  replace x0 := keep b5 x0 (by omega)
  replace x1 := keep b5 x1 (by omega)
  replace x2 := keep b5 x2 (by omega)
  replace y0 := keep b5 y0 (by omega)
  replace y1 := keep b5 y1 (by omega)
  replace y2 := keep b5 y2 (by omega)
  go_wp2_with fail
  refine (hgb _).mono ?_
  rintro e w6 ⟨rfl, b6⟩
  have hz6 := b6.size
  replace c0 := keep b6 c0 (by omega)
  replace c1 := keep b6 c1 (by omega)
  replace c2 := keep b6 c2 (by omega)
  replace d0 := keep b6 d0 (by omega)
  replace d1 := keep b6 d1 (by omega)
  replace d2 := keep b6 d2 (by omega)
  replace x0 := keep b6 x0 (by omega)
  replace x1 := keep b6 x1 (by omega)
  replace x2 := keep b6 x2 (by omega)
  replace y0 := keep b6 y0 (by omega)
  replace y1 := keep b6 y1 (by omega)
  replace y2 := keep b6 y2 (by omega)
  go_wp2
  go_ret
  exact ⟨rfl, ((B3.trans (b4.mono (by omega))).trans (b5.mono (by omega))).trans (b6.mono (by omega))⟩
set_option maxHeartbeats 4000000 in
theorem joins_1 (lo hi : ByteArray) (lo' hi' : ByteArray) (al' : Bool) (k : ByteArray) (w : World) (hs : ((Sp.mk lo hi false).short && (Sp.mk lo' hi' al').short) = true) (d9 : decide ((1100 : Int) < (k.size : Int)) = false) (hq : (hi.toList == lo'.toList) = true) (hgA : (Sp.mk lo hi false).good = true) (hgB : (Sp.mk lo' hi' al').good = true) (hh : (Sp.mk lo hi false).has k = true) : Calls Try.prog 8 #[.agg #[.string lo, .string hi, .bool false], .agg #[.string lo', .string hi', .bool al'], .string k] w fun e w' => e = .returned (.bool true) ∧ Below w.heap.size w w' := by
  have hsh := @short_2 lo hi false lo' hi' al' true hs
  clear hs
  have hjd := joined (Sp.mk lo hi false) ⟨lo', hi', al'⟩ k (by show (true && (hi.toList == lo'.toList)) = true; rw [hq]; rfl) hgA hgB
  have hu : (Sp.mk lo hi' al').has k = true := by have := hjd.1; rw [hh] at this; simpa using this
  have hv : (Sp.mk lo' hi' al').has k = false := by have := hjd.2; rw [hh] at this; simpa using this
  have hhb := has_any ⟨lo', hi', al'⟩ k
  rw [hv] at hhb
  clear hv
  have HU := Lib.hid hu
  have hha := has_any (Sp.mk lo hi false) k
  rw [hh] at hha
  clear hjd hu hh
  have hjn := joins_any (Sp.mk lo hi false) ⟨lo', hi', al'⟩
  rw [show (Sp.mk lo hi false).joins ⟨lo', hi', al'⟩ = true by show (true && (hi.toList == lo'.toList)) = true; rw [hq]; rfl] at hjn
  have hga := good_any (Sp.mk lo hi false)
  rw [hgA] at hga
  simp only [Sp.v] at hjn hga
  have hgb := good_any ⟨lo', hi', al'⟩
  rw [hgB] at hgb
  simp only [Sp.v] at hgb
  clear hgA hgB
  go_enter Try.func8, Try.ntmps8
  go_wp2_with fail
  refine (awake_any _).mono ?_
  rintro e w1 ⟨rfl, b1⟩
  have hz := b1.size
  simp at hz
  have c0 : w1.cell? ⟨w.heap.size, 0, none⟩ = some (.string lo) := keep b1 (by simp [go_sem]) (by simp <;> omega)
  have c1 : w1.cell? ⟨w.heap.size, 1, none⟩ = some (.string hi) := keep b1 (by simp [go_sem]) (by simp <;> omega)
  have c2 : w1.cell? ⟨w.heap.size, 2, none⟩ = some (.bool false) := keep b1 (by simp [go_sem]) (by simp <;> omega)
  have d0 : w1.cell? ⟨w.heap.size + 1, 0, none⟩ = some (.string lo') := keep b1 (by simp [go_sem]) (by simp)
  have d1 : w1.cell? ⟨w.heap.size + 1, 1, none⟩ = some (.string hi') := keep b1 (by simp [go_sem]) (by simp)
  have d2 : w1.cell? ⟨w.heap.size + 1, 2, none⟩ = some (.bool al') := keep b1 (by simp [go_sem]) (by simp)
  have B1 : Below w.heap.size w w1 := (((Below.refl _ _).alloc (Nat.le_refl _) _).alloc (by simp) _).trans (b1.mono (by simp <;> omega))
  clear b1
  go_wp2_with fail
  refine (hsh _ _ _ (by simp [go_sem]) (by simp [go_sem]) (by simp [go_sem]) (by simp [go_sem])).mono ?_
  rintro e w2 ⟨rfl, b2⟩
  have hz2 := b2.size
  simp at hz2
  have hlt : w.heap.size < w1.heap.size := by omega
  have hlt' : w.heap.size + 1 < w1.heap.size := by omega
  replace c0 : w2.cell? ⟨w.heap.size, 0, none⟩ = some (.string lo) := keep b2 (by simp [go_sem, c0, hlt]) (by simp <;> omega)
  replace c1 : w2.cell? ⟨w.heap.size, 1, none⟩ = some (.string hi) := keep b2 (by simp [go_sem, c1, hlt]) (by simp <;> omega)
  replace c2 : w2.cell? ⟨w.heap.size, 2, none⟩ = some (.bool false) := keep b2 (by simp [go_sem, c2, hlt]) (by simp <;> omega)
  replace d0 : w2.cell? ⟨w.heap.size + 1, 0, none⟩ = some (.string lo') := keep b2 (by simp [go_sem, d0, hlt']) (by simp <;> omega)
  replace d1 : w2.cell? ⟨w.heap.size + 1, 1, none⟩ = some (.string hi') := keep b2 (by simp [go_sem, d1, hlt']) (by simp <;> omega)
  replace d2 : w2.cell? ⟨w.heap.size + 1, 2, none⟩ = some (.bool al') := keep b2 (by simp [go_sem, d2, hlt']) (by simp <;> omega)
  have B2 : Below w.heap.size w w2 := (B1.alloc (by omega) _).trans (b2.mono (by simp <;> omega))
  clear b2 B1
  have hS : ∀ W1 W2 : World, (At w.heap.size 0 ⟨lo, hi, false⟩ W1 ∧ At (w.heap.size + 1) 0 ⟨lo', hi', al'⟩ W1) → Below (w.heap.size + 2) W1 W2 → (At w.heap.size 0 ⟨lo, hi, false⟩ W2 ∧ At (w.heap.size + 1) 0 ⟨lo', hi', al'⟩ W2) := fun W1 W2 h hb => ⟨h.1.keep hb (by omega), h.2.keep hb (by omega)⟩
  go_wp2_with fail
  refine Free.region_puts (S := fun W => At w.heap.size 0 ⟨lo, hi, false⟩ W ∧ At (w.heap.size + 1) 0 ⟨lo', hi', al'⟩ W) (B0 := w.heap.size + 2) (w0 := w2.drew) (om := fun _ => 0) (olds := [])
    (tab := [(0, .load 28 ⟨w.heap.size, 0, none⟩ (Sp.mk lo hi false).v), (1, .call 13 [(Sp.mk lo hi false).v] (Sp.mk lo hi false).v), (2, .load 28 ⟨w.heap.size + 1, 0, none⟩ (Sp.mk lo' hi' al').v), (3, .call 13 [(Sp.mk lo' hi' al').v] (Sp.mk lo' hi' al').v), (4, .new 30 zero.cells), (5, .new 30 zero.cells), (6, .put 30 (.own 4) (Sp.mk lo hi false).v (Sp.mk lo hi false).cells), (7, .put 30 (.own 5) (Sp.mk lo' hi' al').v (Sp.mk lo' hi' al').cells)])
    (by kernel_rfl) ⟨by kernel_rfl, ⟨fun _ h => load_28 h.1, ⟨enter_13, fun _ _ => of_any _ _⟩, fun _ h => load_28 h.2, ⟨enter_13, fun _ _ => of_any _ _⟩, new_30, new_30, put_30 _, put_30 _, trivial⟩,
      fun β => by kernel_rfl, fun β => by kernel_rfl, fun β => by kernel_rfl, by kernel_rfl, hS, by rw [drew_size]; omega, fun _ _ h => (by cases h), fun _ _ _ _ h => (by cases h)⟩
    ⟨⟨c0, c1, c2⟩, ⟨d0, d1, d2⟩⟩ rfl (fun _ _ h => (by cases h)) (fun β => [(25, (Sp.mk lo hi false).v), (26, (Sp.mk lo hi false).v), (27, (Sp.mk lo' hi' al').v), (28, (Sp.mk lo' hi' al').v), (7, .pointer (some ⟨β 4, 0, none⟩)), (8, .pointer (some ⟨β 5, 0, none⟩))]) (fun β => by kernel_rfl) ?_
  intro β w3 hAB hz3 b3 hnw hne _
  obtain ⟨q1, q2, q3⟩ := hnw 4 zero.cells rfl
  obtain ⟨r1, r2, r3⟩ := hnw 5 zero.cells rfl
  have hpr : β 4 ≠ β 5 := hne 4 5 zero.cells zero.cells rfl rfl (by decide)
  have hX : At (β 4) 0 ⟨lo, hi, false⟩ w3 := holds_at q3
  have hY : At (β 5) 0 ⟨lo', hi', al'⟩ w3 := holds_at r3
  generalize β 4 = p at q1 q2 hX hpr
  generalize β 5 = r at r1 r2 hY hpr
  rw [drew_size] at hz3 q1 r1
  have B3 : Below w.heap.size w w3 := B2.drew.trans (b3.mono (by omega))
  clear hnw hne q3 r3 b3 B2 c0 c1 c2 d0 d1 d2
  obtain ⟨⟨c0, c1, c2⟩, d0, d1, d2⟩ := hAB
  obtain ⟨x0, x1, x2⟩ := hX
  obtain ⟨y0, y1, y2⟩ := hY
  simp only [Nat.zero_add] at c1 c2 d1 d2 x1 x2 y1 y2
  unfold Free.puts
  simp only [List.foldl_cons, List.foldl_nil]
  go_wp2_with fail
  refine (hjn _).mono ?_
  rintro e w4 ⟨rfl, b4⟩
  have hz4 := b4.size
  replace c0 := keep b4 c0 (by omega)
  replace c1 := keep b4 c1 (by omega)
  replace c2 := keep b4 c2 (by omega)
  replace d0 := keep b4 d0 (by omega)
  replace d1 := keep b4 d1 (by omega)
  replace d2 := keep b4 d2 (by omega)
  replace x0 := keep b4 x0 (by omega)
  replace x1 := keep b4 x1 (by omega)
  replace x2 := keep b4 x2 (by omega)
  replace y0 := keep b4 y0 (by omega)
  replace y1 := keep b4 y1 (by omega)
  replace y2 := keep b4 y2 (by omega)
  go_wp2_with fail
  refine (hga _).mono ?_
  rintro e w5 ⟨rfl, b5⟩
  have hz5 := b5.size
  replace c0 := keep b5 c0 (by omega)
  replace c1 := keep b5 c1 (by omega)
  replace c2 := keep b5 c2 (by omega)
  replace d0 := keep b5 d0 (by omega)
  replace d1 := keep b5 d1 (by omega)
  replace d2 := keep b5 d2 (by omega)
  replace x0 := keep b5 x0 (by omega)
  replace x1 := keep b5 x1 (by omega)
  replace x2 := keep b5 x2 (by omega)
  replace y0 := keep b5 y0 (by omega)
  replace y1 := keep b5 y1 (by omega)
  replace y2 := keep b5 y2 (by omega)
  go_wp2_with fail
  refine (hgb _).mono ?_
  rintro e w6 ⟨rfl, b6⟩
  have hz6 := b6.size
  replace c0 := keep b6 c0 (by omega)
  replace c1 := keep b6 c1 (by omega)
  replace c2 := keep b6 c2 (by omega)
  replace d0 := keep b6 d0 (by omega)
  replace d1 := keep b6 d1 (by omega)
  replace d2 := keep b6 d2 (by omega)
  replace x0 := keep b6 x0 (by omega)
  replace x1 := keep b6 x1 (by omega)
  replace x2 := keep b6 x2 (by omega)
  replace y0 := keep b6 y0 (by omega)
  replace y1 := keep b6 y1 (by omega)
  replace y2 := keep b6 y2 (by omega)
  have B6 := ((B3.trans (b4.mono (by omega))).trans (b5.mono (by omega))).trans (b6.mono (by omega))
  clear b4 b5 b6 B3
  have hp6 : p < w6.heap.size := by omega
  have hr6 : r < w6.heap.size := by omega
  go_wp2_with fail
  have hS' : ∀ W1 W2 : World, ((At p 0 ⟨lo, hi, false⟩ W1 ∧ At r 0 ⟨lo', hi', al'⟩ W1) ∧ At w6.heap.size 0 ⟨lo, hi', al'⟩ W1) → Below (w6.heap.size + 1) W1 W2 → ((At p 0 ⟨lo, hi, false⟩ W2 ∧ At r 0 ⟨lo', hi', al'⟩ W2) ∧ At w6.heap.size 0 ⟨lo, hi', al'⟩ W2) := fun W1 W2 h hb => ⟨⟨h.1.1.keep hb (by omega), h.1.2.keep hb (by omega)⟩, h.2.keep hb (by omega)⟩
  refine Free.region (S := fun W => (At p 0 ⟨lo, hi, false⟩ W ∧ At r 0 ⟨lo', hi', al'⟩ W) ∧ At w6.heap.size 0 ⟨lo, hi', al'⟩ W) (B0 := w6.heap.size + 1) (w0 := (w6.alloc _).drew) (om := fun _ => 0) (olds := [])
    (tab := [(0, .load 30 ⟨w6.heap.size, 0, none⟩ (Sp.mk lo hi' al').v), (2, .call 14 [(Sp.mk lo hi' al').v, .string k] (.bool ((Sp.mk lo hi' al').has k))), (3, .load 30 ⟨p, 0, none⟩ (Sp.mk lo hi false).v), (5, .call 14 [(Sp.mk lo hi false).v, .string k] (.bool true)), (11, .cmp .eql 4 (.bool ((Sp.mk lo hi' al').has k)) (.bool true) (.bool true)), (13, .load 30 ⟨p, 0, none⟩ (Sp.mk lo hi false).v), (15, .call 14 [(Sp.mk lo hi false).v, .string k] (.bool true)), (17, .load 30 ⟨r, 0, none⟩ (Sp.mk lo' hi' al').v), (19, .call 14 [(Sp.mk lo' hi' al').v, .string k] (.bool false))])
    (by kernel_rfl) ⟨by kernel_rfl, ⟨fun _ h => load_30 h.2, ⟨enter_14, fun _ _ => has_any _ _ _⟩, fun _ h => load_30 h.1.1, ⟨enter_14, fun _ _ => hha _⟩, cmp_bool HU.out, fun _ h => load_30 h.1.1, ⟨enter_14, fun _ _ => hha _⟩, fun _ h => load_30 h.1.2, ⟨enter_14, fun _ _ => hhb _⟩, trivial⟩,
      fun β => by kernel_rfl, fun β => by kernel_rfl, fun β => by kernel_rfl, by kernel_rfl, hS', by rw [drew_size]; simp, fun _ _ h => (by cases h), fun _ _ _ _ h => (by cases h)⟩
    ⟨⟨⟨by simp [go_sem, hp6, x0], by simp [go_sem, hp6, x1], by simp [go_sem, hp6, x2]⟩, ⟨by simp [go_sem, hr6, y0], by simp [go_sem, hr6, y1], by simp [go_sem, hr6, y2]⟩⟩, ⟨by simp [go_sem], by simp [go_sem], by simp [go_sem]⟩⟩ rfl (fun _ _ h => (by cases h)) ?_
  intro β w7 _ hz7 b7 _ _ _
  refine (by assumption : ∀ (a : Act) (w : World), Code.wp Try.prog _ _ a w → _) _ _ (wp_ret ?_)
  exact bodyPost_ret (v := .bool true) (by kernel_rfl) (by kernel_rfl) ⟨rfl, (B6.alloc (by omega) _).drew.trans (b7.mono (by omega))⟩
set_option maxHeartbeats 4000000 in
theorem joins_2 (lo hi : ByteArray) (lo' hi' : ByteArray) (al' : Bool) (k : ByteArray) (w : World) (hs : ((Sp.mk lo hi false).short && (Sp.mk lo' hi' al').short) = true) (d9 : decide ((1100 : Int) < (k.size : Int)) = false) (hq : (hi.toList == lo'.toList) = true) (hgA : (Sp.mk lo hi false).good = true) (hgB : (Sp.mk lo' hi' al').good = true) (hh : (Sp.mk lo hi false).has k = false) : Calls Try.prog 8 #[.agg #[.string lo, .string hi, .bool false], .agg #[.string lo', .string hi', .bool al'], .string k] w fun e w' => e = .returned (.bool true) ∧ Below w.heap.size w w' := by
  have hsh := @short_2 lo hi false lo' hi' al' true hs
  clear hs
  have hjd := joined (Sp.mk lo hi false) ⟨lo', hi', al'⟩ k (by show (true && (hi.toList == lo'.toList)) = true; rw [hq]; rfl) hgA hgB
  have hu : (Sp.mk lo hi' al').has k = (Sp.mk lo' hi' al').has k := by have := hjd.1; rw [hh] at this; simpa using this
  have HU := Lib.hid hu
  have hha := has_any (Sp.mk lo hi false) k
  rw [hh] at hha
  clear hjd hu hh
  have hjn := joins_any (Sp.mk lo hi false) ⟨lo', hi', al'⟩
  rw [show (Sp.mk lo hi false).joins ⟨lo', hi', al'⟩ = true by show (true && (hi.toList == lo'.toList)) = true; rw [hq]; rfl] at hjn
  have hga := good_any (Sp.mk lo hi false)
  rw [hgA] at hga
  simp only [Sp.v] at hjn hga
  have hgb := good_any ⟨lo', hi', al'⟩
  rw [hgB] at hgb
  simp only [Sp.v] at hgb
  clear hgA hgB
  go_enter Try.func8, Try.ntmps8
  go_wp2_with fail
  refine (awake_any _).mono ?_
  rintro e w1 ⟨rfl, b1⟩
  have hz := b1.size
  simp at hz
  have c0 : w1.cell? ⟨w.heap.size, 0, none⟩ = some (.string lo) := keep b1 (by simp [go_sem]) (by simp <;> omega)
  have c1 : w1.cell? ⟨w.heap.size, 1, none⟩ = some (.string hi) := keep b1 (by simp [go_sem]) (by simp <;> omega)
  have c2 : w1.cell? ⟨w.heap.size, 2, none⟩ = some (.bool false) := keep b1 (by simp [go_sem]) (by simp <;> omega)
  have d0 : w1.cell? ⟨w.heap.size + 1, 0, none⟩ = some (.string lo') := keep b1 (by simp [go_sem]) (by simp)
  have d1 : w1.cell? ⟨w.heap.size + 1, 1, none⟩ = some (.string hi') := keep b1 (by simp [go_sem]) (by simp)
  have d2 : w1.cell? ⟨w.heap.size + 1, 2, none⟩ = some (.bool al') := keep b1 (by simp [go_sem]) (by simp)
  have B1 : Below w.heap.size w w1 := (((Below.refl _ _).alloc (Nat.le_refl _) _).alloc (by simp) _).trans (b1.mono (by simp <;> omega))
  clear b1
  go_wp2_with fail
  refine (hsh _ _ _ (by simp [go_sem]) (by simp [go_sem]) (by simp [go_sem]) (by simp [go_sem])).mono ?_
  rintro e w2 ⟨rfl, b2⟩
  have hz2 := b2.size
  simp at hz2
  have hlt : w.heap.size < w1.heap.size := by omega
  have hlt' : w.heap.size + 1 < w1.heap.size := by omega
  replace c0 : w2.cell? ⟨w.heap.size, 0, none⟩ = some (.string lo) := keep b2 (by simp [go_sem, c0, hlt]) (by simp <;> omega)
  replace c1 : w2.cell? ⟨w.heap.size, 1, none⟩ = some (.string hi) := keep b2 (by simp [go_sem, c1, hlt]) (by simp <;> omega)
  replace c2 : w2.cell? ⟨w.heap.size, 2, none⟩ = some (.bool false) := keep b2 (by simp [go_sem, c2, hlt]) (by simp <;> omega)
  replace d0 : w2.cell? ⟨w.heap.size + 1, 0, none⟩ = some (.string lo') := keep b2 (by simp [go_sem, d0, hlt']) (by simp <;> omega)
  replace d1 : w2.cell? ⟨w.heap.size + 1, 1, none⟩ = some (.string hi') := keep b2 (by simp [go_sem, d1, hlt']) (by simp <;> omega)
  replace d2 : w2.cell? ⟨w.heap.size + 1, 2, none⟩ = some (.bool al') := keep b2 (by simp [go_sem, d2, hlt']) (by simp <;> omega)
  have B2 : Below w.heap.size w w2 := (B1.alloc (by omega) _).trans (b2.mono (by simp <;> omega))
  clear b2 B1
  have hS : ∀ W1 W2 : World, (At w.heap.size 0 ⟨lo, hi, false⟩ W1 ∧ At (w.heap.size + 1) 0 ⟨lo', hi', al'⟩ W1) → Below (w.heap.size + 2) W1 W2 → (At w.heap.size 0 ⟨lo, hi, false⟩ W2 ∧ At (w.heap.size + 1) 0 ⟨lo', hi', al'⟩ W2) := fun W1 W2 h hb => ⟨h.1.keep hb (by omega), h.2.keep hb (by omega)⟩
  go_wp2_with fail
  refine Free.region_puts (S := fun W => At w.heap.size 0 ⟨lo, hi, false⟩ W ∧ At (w.heap.size + 1) 0 ⟨lo', hi', al'⟩ W) (B0 := w.heap.size + 2) (w0 := w2.drew) (om := fun _ => 0) (olds := [])
    (tab := [(0, .load 28 ⟨w.heap.size, 0, none⟩ (Sp.mk lo hi false).v), (1, .call 13 [(Sp.mk lo hi false).v] (Sp.mk lo hi false).v), (2, .load 28 ⟨w.heap.size + 1, 0, none⟩ (Sp.mk lo' hi' al').v), (3, .call 13 [(Sp.mk lo' hi' al').v] (Sp.mk lo' hi' al').v), (4, .new 30 zero.cells), (5, .new 30 zero.cells), (6, .put 30 (.own 4) (Sp.mk lo hi false).v (Sp.mk lo hi false).cells), (7, .put 30 (.own 5) (Sp.mk lo' hi' al').v (Sp.mk lo' hi' al').cells)])
    (by kernel_rfl) ⟨by kernel_rfl, ⟨fun _ h => load_28 h.1, ⟨enter_13, fun _ _ => of_any _ _⟩, fun _ h => load_28 h.2, ⟨enter_13, fun _ _ => of_any _ _⟩, new_30, new_30, put_30 _, put_30 _, trivial⟩,
      fun β => by kernel_rfl, fun β => by kernel_rfl, fun β => by kernel_rfl, by kernel_rfl, hS, by rw [drew_size]; omega, fun _ _ h => (by cases h), fun _ _ _ _ h => (by cases h)⟩
    ⟨⟨c0, c1, c2⟩, ⟨d0, d1, d2⟩⟩ rfl (fun _ _ h => (by cases h)) (fun β => [(25, (Sp.mk lo hi false).v), (26, (Sp.mk lo hi false).v), (27, (Sp.mk lo' hi' al').v), (28, (Sp.mk lo' hi' al').v), (7, .pointer (some ⟨β 4, 0, none⟩)), (8, .pointer (some ⟨β 5, 0, none⟩))]) (fun β => by kernel_rfl) ?_
  intro β w3 hAB hz3 b3 hnw hne _
  obtain ⟨q1, q2, q3⟩ := hnw 4 zero.cells rfl
  obtain ⟨r1, r2, r3⟩ := hnw 5 zero.cells rfl
  have hpr : β 4 ≠ β 5 := hne 4 5 zero.cells zero.cells rfl rfl (by decide)
  have hX : At (β 4) 0 ⟨lo, hi, false⟩ w3 := holds_at q3
  have hY : At (β 5) 0 ⟨lo', hi', al'⟩ w3 := holds_at r3
  generalize β 4 = p at q1 q2 hX hpr
  generalize β 5 = r at r1 r2 hY hpr
  rw [drew_size] at hz3 q1 r1
  have B3 : Below w.heap.size w w3 := B2.drew.trans (b3.mono (by omega))
  clear hnw hne q3 r3 b3 B2 c0 c1 c2 d0 d1 d2
  obtain ⟨⟨c0, c1, c2⟩, d0, d1, d2⟩ := hAB
  obtain ⟨x0, x1, x2⟩ := hX
  obtain ⟨y0, y1, y2⟩ := hY
  simp only [Nat.zero_add] at c1 c2 d1 d2 x1 x2 y1 y2
  unfold Free.puts
  simp only [List.foldl_cons, List.foldl_nil]
  go_wp2_with fail
  refine (hjn _).mono ?_
  rintro e w4 ⟨rfl, b4⟩
  have hz4 := b4.size
  replace c0 := keep b4 c0 (by omega)
  replace c1 := keep b4 c1 (by omega)
  replace c2 := keep b4 c2 (by omega)
  replace d0 := keep b4 d0 (by omega)
  replace d1 := keep b4 d1 (by omega)
  replace d2 := keep b4 d2 (by omega)
  replace x0 := keep b4 x0 (by omega)
  replace x1 := keep b4 x1 (by omega)
  replace x2 := keep b4 x2 (by omega)
  replace y0 := keep b4 y0 (by omega)
  replace y1 := keep b4 y1 (by omega)
  replace y2 := keep b4 y2 (by omega)
  go_wp2_with fail
  refine (hga _).mono ?_
  rintro e w5 ⟨rfl, b5⟩
  have hz5 := b5.size
  replace c0 := keep b5 c0 (by omega)
  replace c1 := keep b5 c1 (by omega)
  replace c2 := keep b5 c2 (by omega)
  replace d0 := keep b5 d0 (by omega)
  replace d1 := keep b5 d1 (by omega)
  replace d2 := keep b5 d2 (by omega)
  replace x0 := keep b5 x0 (by omega)
  replace x1 := keep b5 x1 (by omega)
  replace x2 := keep b5 x2 (by omega)
  replace y0 := keep b5 y0 (by omega)
  replace y1 := keep b5 y1 (by omega)
  replace y2 := keep b5 y2 (by omega)
  go_wp2_with fail
  refine (hgb _).mono ?_
  rintro e w6 ⟨rfl, b6⟩
  have hz6 := b6.size
  replace c0 := keep b6 c0 (by omega)
  replace c1 := keep b6 c1 (by omega)
  replace c2 := keep b6 c2 (by omega)
  replace d0 := keep b6 d0 (by omega)
  replace d1 := keep b6 d1 (by omega)
  replace d2 := keep b6 d2 (by omega)
  replace x0 := keep b6 x0 (by omega)
  replace x1 := keep b6 x1 (by omega)
  replace x2 := keep b6 x2 (by omega)
  replace y0 := keep b6 y0 (by omega)
  replace y1 := keep b6 y1 (by omega)
  replace y2 := keep b6 y2 (by omega)
  have B6 := ((B3.trans (b4.mono (by omega))).trans (b5.mono (by omega))).trans (b6.mono (by omega))
  clear b4 b5 b6 B3
  have hp6 : p < w6.heap.size := by omega
  have hr6 : r < w6.heap.size := by omega
  go_wp2_with fail
  have hS' : ∀ W1 W2 : World, ((At p 0 ⟨lo, hi, false⟩ W1 ∧ At r 0 ⟨lo', hi', al'⟩ W1) ∧ At w6.heap.size 0 ⟨lo, hi', al'⟩ W1) → Below (w6.heap.size + 1) W1 W2 → ((At p 0 ⟨lo, hi, false⟩ W2 ∧ At r 0 ⟨lo', hi', al'⟩ W2) ∧ At w6.heap.size 0 ⟨lo, hi', al'⟩ W2) := fun W1 W2 h hb => ⟨⟨h.1.1.keep hb (by omega), h.1.2.keep hb (by omega)⟩, h.2.keep hb (by omega)⟩
  refine Free.region (S := fun W => (At p 0 ⟨lo, hi, false⟩ W ∧ At r 0 ⟨lo', hi', al'⟩ W) ∧ At w6.heap.size 0 ⟨lo, hi', al'⟩ W) (B0 := w6.heap.size + 1) (w0 := (w6.alloc _).drew) (om := fun _ => 0) (olds := [])
    (tab := [(0, .load 30 ⟨w6.heap.size, 0, none⟩ (Sp.mk lo hi' al').v), (2, .call 14 [(Sp.mk lo hi' al').v, .string k] (.bool ((Sp.mk lo hi' al').has k))), (3, .load 30 ⟨p, 0, none⟩ (Sp.mk lo hi false).v), (5, .call 14 [(Sp.mk lo hi false).v, .string k] (.bool false)), (7, .load 30 ⟨r, 0, none⟩ (Sp.mk lo' hi' al').v), (9, .call 14 [(Sp.mk lo' hi' al').v, .string k] (.bool ((Sp.mk lo' hi' al').has k))), (11, .cmp .eql 4 (.bool ((Sp.mk lo hi' al').has k)) (.bool ((Sp.mk lo' hi' al').has k)) (.bool true)), (13, .load 30 ⟨p, 0, none⟩ (Sp.mk lo hi false).v), (15, .call 14 [(Sp.mk lo hi false).v, .string k] (.bool false))])
    (by kernel_rfl) ⟨by kernel_rfl, ⟨fun _ h => load_30 h.2, ⟨enter_14, fun _ _ => has_any _ _ _⟩, fun _ h => load_30 h.1.1, ⟨enter_14, fun _ _ => hha _⟩, fun _ h => load_30 h.1.2, ⟨enter_14, fun _ _ => has_any _ _ _⟩, cmp_bool HU.out, fun _ h => load_30 h.1.1, ⟨enter_14, fun _ _ => hha _⟩, trivial⟩,
      fun β => by kernel_rfl, fun β => by kernel_rfl, fun β => by kernel_rfl, by kernel_rfl, hS', by rw [drew_size]; simp, fun _ _ h => (by cases h), fun _ _ _ _ h => (by cases h)⟩
    ⟨⟨⟨by simp [go_sem, hp6, x0], by simp [go_sem, hp6, x1], by simp [go_sem, hp6, x2]⟩, ⟨by simp [go_sem, hr6, y0], by simp [go_sem, hr6, y1], by simp [go_sem, hr6, y2]⟩⟩, ⟨by simp [go_sem], by simp [go_sem], by simp [go_sem]⟩⟩ rfl (fun _ _ h => (by cases h)) ?_
  intro β w7 _ hz7 b7 _ _ _
  refine (by assumption : ∀ (a : Act) (w : World), Code.wp Try.prog _ _ a w → _) _ _ (wp_ret ?_)
  exact bodyPost_ret (v := .bool true) (by kernel_rfl) (by kernel_rfl) ⟨rfl, (B6.alloc (by omega) _).drew.trans (b7.mono (by omega))⟩
theorem joinsLaw_any (a b : Sp) (k : ByteArray) (w : World) : Calls Try.prog 8 #[a.v, b.v, .string k] w fun e w' => e = .returned (.bool true) ∧ Below w.heap.size w w' := by
  obtain ⟨lo, hi, al⟩ := a
  obtain ⟨lo', hi', al'⟩ := b
  cases hs : ((Sp.mk lo hi al).short && (Sp.mk lo' hi' al').short) with
  | false => exact joins_s lo hi al lo' hi' al' k w hs
  | true =>
    cases d9 : decide ((1100 : Int) < (k.size : Int)) with
    | true => exact joins_k lo hi al lo' hi' al' k w hs d9
    | false =>
      cases al with
      | true => exact joins_n1 lo hi lo' hi' al' k w hs d9
      | false =>
        cases hq : (hi.toList == lo'.toList) with
        | false => exact joins_n2 lo hi lo' hi' al' k w hs d9 hq
        | true =>
          cases hgA : (Sp.mk lo hi false).good with
          | false => exact joins_g1 lo hi lo' hi' al' k w hs d9 hq hgA
          | true =>
            cases hgB : (Sp.mk lo' hi' al').good with
            | false => exact joins_g2 lo hi lo' hi' al' k w hs d9 hq hgA hgB
            | true =>
              cases hh : (Sp.mk lo hi false).has k with
              | true => exact joins_1 lo hi lo' hi' al' k w hs d9 hq hgA hgB hh
              | false => exact joins_2 lo hi lo' hi' al' k w hs d9 hq hgA hgB hh
end Go.Proofs.Ytkafbjnhjmlabaa
