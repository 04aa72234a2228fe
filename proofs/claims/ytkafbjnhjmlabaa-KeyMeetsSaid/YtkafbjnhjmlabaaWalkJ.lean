/- KeyMeets answers true, whatever spans of the reference and text it is handed. No condition. -/
import Derived.Test.YtkafbjnhjmlabaaWalkH
namespace Go.Proofs.Ytkafbjnhjmlabaa
open Go.RowKit Go.Op
set_option maxRecDepth 100000

theorem short_2 {lo hi : ByteArray} {al : Bool} {lo' hi' : ByteArray} {al' b : Bool} (hb : ((Sp.mk lo hi al).short && (Sp.mk lo' hi' al').short) = b) (g c : Nat) (w : World) (h0 : w.cell? ⟨g, 0, none⟩ = some (.string lo)) (h1 : w.cell? ⟨g, 1, none⟩ = some (.string hi)) (h3 : w.cell? ⟨g, 3, none⟩ = some (.string lo')) (h4 : w.cell? ⟨g, 4, none⟩ = some (.string hi')) :
    Calls Try.prog 12 #[.slice (some ⟨g, 0, none⟩) 2 c] w fun e w' => e = .returned (.int .i64 (if b then 1 else 0)) ∧ Below w.heap.size w w' := by
  have := short_two lo hi lo' hi' al al' g c w h0 h1 h3 h4
  rw [hb] at this
  exact this

set_option maxHeartbeats 2000000 in
theorem meets_s (lo hi : ByteArray) (al : Bool) (lo' hi' : ByteArray) (al' : Bool) (k : ByteArray) (w : World) (hs : ((Sp.mk lo hi al).short && (Sp.mk lo' hi' al').short) = false) : Calls Try.prog 5 #[.agg #[.string lo, .string hi, .bool al], .agg #[.string lo', .string hi', .bool al'], .string k] w fun e w' => e = .returned (.bool true) ∧ Below w.heap.size w w' := by
  have hsh := @short_2 lo hi al lo' hi' al' false hs
  clear hs
  go_enter Try.func5, Try.ntmps5
  go_wp2_with fail
  refine (awake_any _).mono ?_
  rintro e w1 ⟨rfl, b1⟩
  have hz := b1.size
  simp at hz
  have c0 : w1.cell? ⟨w.heap.size, 0, none⟩ = some (.string lo) := keep b1 (by simp [go_sem]) (by simp <;> omega)
  have c1 : w1.cell? ⟨w.heap.size, 1, none⟩ = some (.string hi) := keep b1 (by simp [go_sem]) (by simp <;> omega)
  have c2 : w1.cell? ⟨w.heap.size, 2, none⟩ = some (.bool al) := keep b1 (by simp [go_sem]) (by simp <;> omega)
  have d0 : w1.cell? ⟨w.heap.size + 1, 0, none⟩ = some (.string lo') := keep b1 (by simp [go_sem]) (by simp)
  have d1 : w1.cell? ⟨w.heap.size + 1, 1, none⟩ = some (.string hi') := keep b1 (by simp [go_sem]) (by simp)
  have d2 : w1.cell? ⟨w.heap.size + 1, 2, none⟩ = some (.bool al') := keep b1 (by simp [go_sem]) (by simp)
  have B1 : Below w.heap.size w w1 := (((Below.refl _ _).alloc (Nat.le_refl _) _).alloc (by simp) _).trans (b1.mono (by simp <;> omega))
  clear b1
  go_wp2_with fail
  refine (hsh _ _ _ (by simp [go_sem]) (by simp [go_sem]) (by simp [go_sem]) (by simp [go_sem])).mono ?_
  rintro e w2 ⟨rfl, b2⟩
  have hz2 := b2.size
  simp at hz2
  go_wp2_with fail
  refine (awake_any _).mono ?_
  rintro e w3 ⟨rfl, b3⟩
  go_wp2
  go_ret
  exact ⟨rfl, ((B1.alloc (by omega) _).trans (b2.mono (by simp <;> omega))).trans (b3.mono (by omega))⟩
set_option maxHeartbeats 2000000 in
theorem meets_k (lo hi : ByteArray) (al : Bool) (lo' hi' : ByteArray) (al' : Bool) (k : ByteArray) (w : World) (hs : ((Sp.mk lo hi al).short && (Sp.mk lo' hi' al').short) = true) (d9 : decide ((1100 : Int) < (k.size : Int)) = true) : Calls Try.prog 5 #[.agg #[.string lo, .string hi, .bool al], .agg #[.string lo', .string hi', .bool al'], .string k] w fun e w' => e = .returned (.bool true) ∧ Below w.heap.size w w' := by
  have hsh := @short_2 lo hi al lo' hi' al' true hs
  clear hs
  go_enter Try.func5, Try.ntmps5
  go_wp2_with fail
  refine (awake_any _).mono ?_
  rintro e w1 ⟨rfl, b1⟩
  have hz := b1.size
  simp at hz
  have c0 : w1.cell? ⟨w.heap.size, 0, none⟩ = some (.string lo) := keep b1 (by simp [go_sem]) (by simp <;> omega)
  have c1 : w1.cell? ⟨w.heap.size, 1, none⟩ = some (.string hi) := keep b1 (by simp [go_sem]) (by simp <;> omega)
  have c2 : w1.cell? ⟨w.heap.size, 2, none⟩ = some (.bool al) := keep b1 (by simp [go_sem]) (by simp <;> omega)
  have d0 : w1.cell? ⟨w.heap.size + 1, 0, none⟩ = some (.string lo') := keep b1 (by simp [go_sem]) (by simp)
  have d1 : w1.cell? ⟨w.heap.size + 1, 1, none⟩ = some (.string hi') := keep b1 (by simp [go_sem]) (by simp)
  have d2 : w1.cell? ⟨w.heap.size + 1, 2, none⟩ = some (.bool al') := keep b1 (by simp [go_sem]) (by simp)
  have B1 : Below w.heap.size w w1 := (((Below.refl _ _).alloc (Nat.le_refl _) _).alloc (by simp) _).trans (b1.mono (by simp <;> omega))
  clear b1
  go_wp2_with fail
  refine (hsh _ _ _ (by simp [go_sem]) (by simp [go_sem]) (by simp [go_sem]) (by simp [go_sem])).mono ?_
  rintro e w2 ⟨rfl, b2⟩
  have hz2 := b2.size
  simp at hz2
  go_wp2_with fail
  refine (awake_any _).mono ?_
  rintro e w3 ⟨rfl, b3⟩
  go_wp2
  go_ret
  exact ⟨rfl, ((B1.alloc (by omega) _).trans (b2.mono (by simp <;> omega))).trans (b3.mono (by omega))⟩
set_option maxHeartbeats 4000000 in
theorem meets_t (lo hi : ByteArray) (al : Bool) (lo' hi' : ByteArray) (al' : Bool) (k : ByteArray) (w : World) (hs : ((Sp.mk lo hi al).short && (Sp.mk lo' hi' al').short) = true) (d9 : decide ((1100 : Int) < (k.size : Int)) = false) (hh : (Sp.mk lo hi al).has k = true) : Calls Try.prog 5 #[.agg #[.string lo, .string hi, .bool al], .agg #[.string lo', .string hi', .bool al'], .string k] w fun e w' => e = .returned (.bool true) ∧ Below w.heap.size w w' := by
  have hsh := @short_2 lo hi al lo' hi' al' true hs
  obtain ⟨M, hM⟩ : ∃ M, M = (Sp.mk lo hi al).meet ⟨lo', hi', al'⟩ := ⟨_, rfl⟩
  have hm := meet_any (Sp.mk lo hi al) ⟨lo', hi', al'⟩
  have hmc := meet_any ⟨lo', hi', al'⟩ (Sp.mk lo hi al)
  rw [meet_comm] at hmc
  rw [Bool.and_eq_true] at hs
  obtain ⟨s1, s2⟩ := short_yes hs.1
  obtain ⟨s3, s4⟩ := short_yes hs.2
  have hrm := refmeet_any (Sp.mk lo hi al) ⟨lo', hi', al'⟩ (by show lo.size ≤ _; omega) (by show hi.size ≤ _; omega) (by show lo'.size ≤ _; omega) (by show hi'.size ≤ _; omega)
  have hmm : M.has k = (Sp.mk lo' hi' al').has k := by rw [hM, has_meet, hh]; simp
  have hha := has_any (Sp.mk lo hi al) k
  rw [hh] at hha
  rw [← hM] at hm hmc hrm
  have HMM := Lib.hid hmm
  clear hM hs s1 s2 s3 s4 hh hmm
  go_enter Try.func5, Try.ntmps5
  go_wp2_with fail
  refine (awake_any _).mono ?_
  rintro e w1 ⟨rfl, b1⟩
  have hz := b1.size
  simp at hz
  have c0 : w1.cell? ⟨w.heap.size, 0, none⟩ = some (.string lo) := keep b1 (by simp [go_sem]) (by simp <;> omega)
  have c1 : w1.cell? ⟨w.heap.size, 1, none⟩ = some (.string hi) := keep b1 (by simp [go_sem]) (by simp <;> omega)
  have c2 : w1.cell? ⟨w.heap.size, 2, none⟩ = some (.bool al) := keep b1 (by simp [go_sem]) (by simp <;> omega)
  have d0 : w1.cell? ⟨w.heap.size + 1, 0, none⟩ = some (.string lo') := keep b1 (by simp [go_sem]) (by simp)
  have d1 : w1.cell? ⟨w.heap.size + 1, 1, none⟩ = some (.string hi') := keep b1 (by simp [go_sem]) (by simp)
  have d2 : w1.cell? ⟨w.heap.size + 1, 2, none⟩ = some (.bool al') := keep b1 (by simp [go_sem]) (by simp)
  have B1 : Below w.heap.size w w1 := (((Below.refl _ _).alloc (Nat.le_refl _) _).alloc (by simp) _).trans (b1.mono (by simp <;> omega))
  clear b1
  go_wp2_with fail
  refine (hsh _ _ _ (by simp [go_sem]) (by simp [go_sem]) (by simp [go_sem]) (by simp [go_sem])).mono ?_
  rintro e w2 ⟨rfl, b2⟩
  have hz2 := b2.size
  simp at hz2
  have hlt : w.heap.size < w1.heap.size := by omega
  have hlt' : w.heap.size + 1 < w1.heap.size := by omega
  replace c0 : w2.cell? ⟨w.heap.size, 0, none⟩ = some (.string lo) := keep b2 (by simp [go_sem, c0, hlt]) (by simp <;> omega)
  replace c1 : w2.cell? ⟨w.heap.size, 1, none⟩ = some (.string hi) := keep b2 (by simp [go_sem, c1, hlt]) (by simp <;> omega)
  replace c2 : w2.cell? ⟨w.heap.size, 2, none⟩ = some (.bool al) := keep b2 (by simp [go_sem, c2, hlt]) (by simp <;> omega)
  replace d0 : w2.cell? ⟨w.heap.size + 1, 0, none⟩ = some (.string lo') := keep b2 (by simp [go_sem, d0, hlt']) (by simp <;> omega)
  replace d1 : w2.cell? ⟨w.heap.size + 1, 1, none⟩ = some (.string hi') := keep b2 (by simp [go_sem, d1, hlt']) (by simp <;> omega)
  replace d2 : w2.cell? ⟨w.heap.size + 1, 2, none⟩ = some (.bool al') := keep b2 (by simp [go_sem, d2, hlt']) (by simp <;> omega)
  have B2 : Below w.heap.size w w2 := (B1.alloc (by omega) _).trans (b2.mono (by simp <;> omega))
  clear b2 B1
  have hS : ∀ W1 W2 : World, (At w.heap.size 0 ⟨lo, hi, al⟩ W1 ∧ At (w.heap.size + 1) 0 ⟨lo', hi', al'⟩ W1) → Below (w.heap.size + 2) W1 W2 → (At w.heap.size 0 ⟨lo, hi, al⟩ W2 ∧ At (w.heap.size + 1) 0 ⟨lo', hi', al'⟩ W2) := fun W1 W2 h hb => ⟨h.1.keep hb (by omega), h.2.keep hb (by omega)⟩
  go_wp2_with fail
  refine Free.region_puts (S := fun W => At w.heap.size 0 ⟨lo, hi, al⟩ W ∧ At (w.heap.size + 1) 0 ⟨lo', hi', al'⟩ W) (B0 := w.heap.size + 2) (w0 := w2.drew) (om := fun _ => 0) (olds := [])
    (tab := [(0, .load 28 ⟨w.heap.size, 0, none⟩ (Sp.mk lo hi al).v), (1, .call 13 [(Sp.mk lo hi al).v] (Sp.mk lo hi al).v), (2, .load 28 ⟨w.heap.size + 1, 0, none⟩ (Sp.mk lo' hi' al').v), (3, .call 13 [(Sp.mk lo' hi' al').v] (Sp.mk lo' hi' al').v), (4, .call 20 [(Sp.mk lo hi al).v, (Sp.mk lo' hi' al').v] M.v), (5, .new 30 zero.cells), (6, .put 30 (.own 5) M.v M.cells)])
    (by kernel_rfl) ⟨by kernel_rfl, ⟨fun _ h => load_28 h.1, ⟨enter_13, fun _ _ => of_any _ _⟩, fun _ h => load_28 h.2, ⟨enter_13, fun _ _ => of_any _ _⟩, ⟨enter_20, fun _ _ => hm _⟩, new_30, put_30 _, trivial⟩,
      fun β => by kernel_rfl, fun β => by kernel_rfl, fun β => by kernel_rfl, by kernel_rfl, hS, by rw [drew_size]; omega, fun _ _ h => (by cases h), fun _ _ _ _ h => (by cases h)⟩
    ⟨⟨c0, c1, c2⟩, ⟨d0, d1, d2⟩⟩ rfl (fun _ _ h => (by cases h)) (fun β => [(23, (Sp.mk lo hi al).v), (24, (Sp.mk lo hi al).v), (25, (Sp.mk lo' hi' al').v), (26, (Sp.mk lo' hi' al').v), (27, M.v), (7, .pointer (some ⟨β 5, 0, none⟩))]) (fun β => by kernel_rfl) ?_
  intro β w3 hAB hz3 b3 hnw _ _
  obtain ⟨q1, q2, q3⟩ := hnw 5 zero.cells rfl
  have hM : At (β 5) 0 M w3 := holds_at q3
  generalize β 5 = p at q1 q2 hM
  rw [drew_size] at hz3 q1
  have B3 : Below w.heap.size w w3 := B2.drew.trans (b3.mono (by omega))
  clear hnw q3 b3 B2 c0 c1 c2 d0 d1 d2
  unfold Free.puts
  simp only [List.foldl_cons, List.foldl_nil]
  go_wp2_with fail
  have hS' : ∀ W1 W2 : World, ((At w.heap.size 0 ⟨lo, hi, al⟩ W1 ∧ At (w.heap.size + 1) 0 ⟨lo', hi', al'⟩ W1) ∧ At p 0 M W1) → Below (p + 1) W1 W2 → ((At w.heap.size 0 ⟨lo, hi, al⟩ W2 ∧ At (w.heap.size + 1) 0 ⟨lo', hi', al'⟩ W2) ∧ At p 0 M W2) := fun W1 W2 h hb => ⟨⟨h.1.1.keep hb (by omega), h.1.2.keep hb (by omega)⟩, h.2.keep hb (by omega)⟩
  have hmm := HMM.out
  refine Free.region (S := fun W => (At w.heap.size 0 ⟨lo, hi, al⟩ W ∧ At (w.heap.size + 1) 0 ⟨lo', hi', al'⟩ W) ∧ At p 0 M W) (B0 := p + 1) (w0 := w3.drew) (om := fun _ => 0) (olds := [])
    (tab := [(0, .load 30 ⟨p, 0, none⟩ M.v), (1, .call 21 [M.v] M.v), (2, .load 28 ⟨w.heap.size, 0, none⟩ (Sp.mk lo hi al).v), (3, .load 28 ⟨w.heap.size + 1, 0, none⟩ (Sp.mk lo' hi' al').v), (4, .call 22 [(Sp.mk lo hi al).v, (Sp.mk lo' hi' al').v] M.v), (5, .cmp .eql 28 M.v M.v (.bool true)), (7, .load 30 ⟨p, 0, none⟩ M.v), (8, .load 28 ⟨w.heap.size + 1, 0, none⟩ (Sp.mk lo' hi' al').v), (9, .call 13 [(Sp.mk lo' hi' al').v] (Sp.mk lo' hi' al').v), (10, .load 28 ⟨w.heap.size, 0, none⟩ (Sp.mk lo hi al).v), (11, .call 13 [(Sp.mk lo hi al).v] (Sp.mk lo hi al).v), (12, .call 20 [(Sp.mk lo' hi' al').v, (Sp.mk lo hi al).v] M.v), (13, .cmp .eql 30 M.v M.v (.bool true)), (16, .load 30 ⟨p, 0, none⟩ M.v), (18, .call 14 [M.v, .string k] (.bool (M.has k))), (19, .load 28 ⟨w.heap.size, 0, none⟩ (Sp.mk lo hi al).v), (20, .call 13 [(Sp.mk lo hi al).v] (Sp.mk lo hi al).v), (22, .call 14 [(Sp.mk lo hi al).v, .string k] (.bool true)), (24, .load 28 ⟨w.heap.size + 1, 0, none⟩ (Sp.mk lo' hi' al').v), (25, .call 13 [(Sp.mk lo' hi' al').v] (Sp.mk lo' hi' al').v), (27, .call 14 [(Sp.mk lo' hi' al').v, .string k] (.bool ((Sp.mk lo' hi' al').has k))), (29, .cmp .eql 4 (.bool (M.has k)) (.bool ((Sp.mk lo' hi' al').has k)) (.bool true))])
    (by kernel_rfl) ⟨by kernel_rfl, ⟨fun _ h => load_30 h.2, ⟨enter_21, fun _ _ => plain_any _ _⟩, fun _ h => load_28 h.1.1, fun _ h => load_28 h.1.2, ⟨enter_22, fun _ _ => hrm _⟩, cmp_28 _, fun _ h => load_30 h.2, fun _ h => load_28 h.1.2, ⟨enter_13, fun _ _ => of_any _ _⟩, fun _ h => load_28 h.1.1, ⟨enter_13, fun _ _ => of_any _ _⟩, ⟨enter_20, fun _ _ => hmc _⟩, cmp_30 _, fun _ h => load_30 h.2, ⟨enter_14, fun _ _ => has_any _ _ _⟩, fun _ h => load_28 h.1.1, ⟨enter_13, fun _ _ => of_any _ _⟩, ⟨enter_14, fun _ _ => hha _⟩, fun _ h => load_28 h.1.2, ⟨enter_13, fun _ _ => of_any _ _⟩, ⟨enter_14, fun _ _ => has_any _ _ _⟩, cmp_bool hmm, trivial⟩,
      fun β => by kernel_rfl, fun β => by kernel_rfl, fun β => by kernel_rfl, by kernel_rfl, hS', by rw [drew_size]; omega, fun _ _ h => (by cases h), fun _ _ _ _ h => (by cases h)⟩
    ⟨hAB, hM⟩ rfl (fun _ _ h => (by cases h)) ?_
  intro β w4 _ hz4 b4 _ _ _
  refine (by assumption : ∀ (a : Act) (w : World), Code.wp Try.prog _ _ a w → _) _ _ (wp_ret ?_)
  exact bodyPost_ret (v := .bool true) (by kernel_rfl) (by kernel_rfl) ⟨rfl, B3.drew.trans (b4.mono (by omega))⟩
set_option maxHeartbeats 4000000 in
theorem meets_f (lo hi : ByteArray) (al : Bool) (lo' hi' : ByteArray) (al' : Bool) (k : ByteArray) (w : World) (hs : ((Sp.mk lo hi al).short && (Sp.mk lo' hi' al').short) = true) (d9 : decide ((1100 : Int) < (k.size : Int)) = false) (hh : (Sp.mk lo hi al).has k = false) : Calls Try.prog 5 #[.agg #[.string lo, .string hi, .bool al], .agg #[.string lo', .string hi', .bool al'], .string k] w fun e w' => e = .returned (.bool true) ∧ Below w.heap.size w w' := by
  have hsh := @short_2 lo hi al lo' hi' al' true hs
  obtain ⟨M, hM⟩ : ∃ M, M = (Sp.mk lo hi al).meet ⟨lo', hi', al'⟩ := ⟨_, rfl⟩
  have hm := meet_any (Sp.mk lo hi al) ⟨lo', hi', al'⟩
  have hmc := meet_any ⟨lo', hi', al'⟩ (Sp.mk lo hi al)
  rw [meet_comm] at hmc
  rw [Bool.and_eq_true] at hs
  obtain ⟨s1, s2⟩ := short_yes hs.1
  obtain ⟨s3, s4⟩ := short_yes hs.2
  have hrm := refmeet_any (Sp.mk lo hi al) ⟨lo', hi', al'⟩ (by show lo.size ≤ _; omega) (by show hi.size ≤ _; omega) (by show lo'.size ≤ _; omega) (by show hi'.size ≤ _; omega)
  have hmm : M.has k = false := by rw [hM, has_meet, hh]; simp
  have hha := has_any (Sp.mk lo hi al) k
  rw [hh] at hha
  rw [← hM] at hm hmc hrm
  have HMM := Lib.hid hmm
  clear hM hs s1 s2 s3 s4 hh hmm
  go_enter Try.func5, Try.ntmps5
  go_wp2_with fail
  refine (awake_any _).mono ?_
  rintro e w1 ⟨rfl, b1⟩
  have hz := b1.size
  simp at hz
  have c0 : w1.cell? ⟨w.heap.size, 0, none⟩ = some (.string lo) := keep b1 (by simp [go_sem]) (by simp <;> omega)
  have c1 : w1.cell? ⟨w.heap.size, 1, none⟩ = some (.string hi) := keep b1 (by simp [go_sem]) (by simp <;> omega)
  have c2 : w1.cell? ⟨w.heap.size, 2, none⟩ = some (.bool al) := keep b1 (by simp [go_sem]) (by simp <;> omega)
  have d0 : w1.cell? ⟨w.heap.size + 1, 0, none⟩ = some (.string lo') := keep b1 (by simp [go_sem]) (by simp)
  have d1 : w1.cell? ⟨w.heap.size + 1, 1, none⟩ = some (.string hi') := keep b1 (by simp [go_sem]) (by simp)
  have d2 : w1.cell? ⟨w.heap.size + 1, 2, none⟩ = some (.bool al') := keep b1 (by simp [go_sem]) (by simp)
  have B1 : Below w.heap.size w w1 := (((Below.refl _ _).alloc (Nat.le_refl _) _).alloc (by simp) _).trans (b1.mono (by simp <;> omega))
  clear b1
  go_wp2_with fail
  refine (hsh _ _ _ (by simp [go_sem]) (by simp [go_sem]) (by simp [go_sem]) (by simp [go_sem])).mono ?_
  rintro e w2 ⟨rfl, b2⟩
  have hz2 := b2.size
  simp at hz2
  have hlt : w.heap.size < w1.heap.size := by omega
  have hlt' : w.heap.size + 1 < w1.heap.size := by omega
  replace c0 : w2.cell? ⟨w.heap.size, 0, none⟩ = some (.string lo) := keep b2 (by simp [go_sem, c0, hlt]) (by simp <;> omega)
  replace c1 : w2.cell? ⟨w.heap.size, 1, none⟩ = some (.string hi) := keep b2 (by simp [go_sem, c1, hlt]) (by simp <;> omega)
  replace c2 : w2.cell? ⟨w.heap.size, 2, none⟩ = some (.bool al) := keep b2 (by simp [go_sem, c2, hlt]) (by simp <;> omega)
  replace d0 : w2.cell? ⟨w.heap.size + 1, 0, none⟩ = some (.string lo') := keep b2 (by simp [go_sem, d0, hlt']) (by simp <;> omega)
  replace d1 : w2.cell? ⟨w.heap.size + 1, 1, none⟩ = some (.string hi') := keep b2 (by simp [go_sem, d1, hlt']) (by simp <;> omega)
  replace d2 : w2.cell? ⟨w.heap.size + 1, 2, none⟩ = some (.bool al') := keep b2 (by simp [go_sem, d2, hlt']) (by simp <;> omega)
  have B2 : Below w.heap.size w w2 := (B1.alloc (by omega) _).trans (b2.mono (by simp <;> omega))
  clear b2 B1
  have hS : ∀ W1 W2 : World, (At w.heap.size 0 ⟨lo, hi, al⟩ W1 ∧ At (w.heap.size + 1) 0 ⟨lo', hi', al'⟩ W1) → Below (w.heap.size + 2) W1 W2 → (At w.heap.size 0 ⟨lo, hi, al⟩ W2 ∧ At (w.heap.size + 1) 0 ⟨lo', hi', al'⟩ W2) := fun W1 W2 h hb => ⟨h.1.keep hb (by omega), h.2.keep hb (by omega)⟩
  go_wp2_with fail
  refine Free.region_puts (S := fun W => At w.heap.size 0 ⟨lo, hi, al⟩ W ∧ At (w.heap.size + 1) 0 ⟨lo', hi', al'⟩ W) (B0 := w.heap.size + 2) (w0 := w2.drew) (om := fun _ => 0) (olds := [])
    (tab := [(0, .load 28 ⟨w.heap.size, 0, none⟩ (Sp.mk lo hi al).v), (1, .call 13 [(Sp.mk lo hi al).v] (Sp.mk lo hi al).v), (2, .load 28 ⟨w.heap.size + 1, 0, none⟩ (Sp.mk lo' hi' al').v), (3, .call 13 [(Sp.mk lo' hi' al').v] (Sp.mk lo' hi' al').v), (4, .call 20 [(Sp.mk lo hi al).v, (Sp.mk lo' hi' al').v] M.v), (5, .new 30 zero.cells), (6, .put 30 (.own 5) M.v M.cells)])
    (by kernel_rfl) ⟨by kernel_rfl, ⟨fun _ h => load_28 h.1, ⟨enter_13, fun _ _ => of_any _ _⟩, fun _ h => load_28 h.2, ⟨enter_13, fun _ _ => of_any _ _⟩, ⟨enter_20, fun _ _ => hm _⟩, new_30, put_30 _, trivial⟩,
      fun β => by kernel_rfl, fun β => by kernel_rfl, fun β => by kernel_rfl, by kernel_rfl, hS, by rw [drew_size]; omega, fun _ _ h => (by cases h), fun _ _ _ _ h => (by cases h)⟩
    ⟨⟨c0, c1, c2⟩, ⟨d0, d1, d2⟩⟩ rfl (fun _ _ h => (by cases h)) (fun β => [(23, (Sp.mk lo hi al).v), (24, (Sp.mk lo hi al).v), (25, (Sp.mk lo' hi' al').v), (26, (Sp.mk lo' hi' al').v), (27, M.v), (7, .pointer (some ⟨β 5, 0, none⟩))]) (fun β => by kernel_rfl) ?_
  intro β w3 hAB hz3 b3 hnw _ _
  obtain ⟨q1, q2, q3⟩ := hnw 5 zero.cells rfl
  have hM : At (β 5) 0 M w3 := holds_at q3
  generalize β 5 = p at q1 q2 hM
  rw [drew_size] at hz3 q1
  have B3 : Below w.heap.size w w3 := B2.drew.trans (b3.mono (by omega))
  clear hnw q3 b3 B2 c0 c1 c2 d0 d1 d2
  unfold Free.puts
  simp only [List.foldl_cons, List.foldl_nil]
  go_wp2_with fail
  have hS' : ∀ W1 W2 : World, ((At w.heap.size 0 ⟨lo, hi, al⟩ W1 ∧ At (w.heap.size + 1) 0 ⟨lo', hi', al'⟩ W1) ∧ At p 0 M W1) → Below (p + 1) W1 W2 → ((At w.heap.size 0 ⟨lo, hi, al⟩ W2 ∧ At (w.heap.size + 1) 0 ⟨lo', hi', al'⟩ W2) ∧ At p 0 M W2) := fun W1 W2 h hb => ⟨⟨h.1.1.keep hb (by omega), h.1.2.keep hb (by omega)⟩, h.2.keep hb (by omega)⟩
  have hmm := HMM.out
  refine Free.region (S := fun W => (At w.heap.size 0 ⟨lo, hi, al⟩ W ∧ At (w.heap.size + 1) 0 ⟨lo', hi', al'⟩ W) ∧ At p 0 M W) (B0 := p + 1) (w0 := w3.drew) (om := fun _ => 0) (olds := [])
    (tab := [(0, .load 30 ⟨p, 0, none⟩ M.v), (1, .call 21 [M.v] M.v), (2, .load 28 ⟨w.heap.size, 0, none⟩ (Sp.mk lo hi al).v), (3, .load 28 ⟨w.heap.size + 1, 0, none⟩ (Sp.mk lo' hi' al').v), (4, .call 22 [(Sp.mk lo hi al).v, (Sp.mk lo' hi' al').v] M.v), (5, .cmp .eql 28 M.v M.v (.bool true)), (7, .load 30 ⟨p, 0, none⟩ M.v), (8, .load 28 ⟨w.heap.size + 1, 0, none⟩ (Sp.mk lo' hi' al').v), (9, .call 13 [(Sp.mk lo' hi' al').v] (Sp.mk lo' hi' al').v), (10, .load 28 ⟨w.heap.size, 0, none⟩ (Sp.mk lo hi al).v), (11, .call 13 [(Sp.mk lo hi al).v] (Sp.mk lo hi al).v), (12, .call 20 [(Sp.mk lo' hi' al').v, (Sp.mk lo hi al).v] M.v), (13, .cmp .eql 30 M.v M.v (.bool true)), (16, .load 30 ⟨p, 0, none⟩ M.v), (18, .call 14 [M.v, .string k] (.bool (M.has k))), (19, .load 28 ⟨w.heap.size, 0, none⟩ (Sp.mk lo hi al).v), (20, .call 13 [(Sp.mk lo hi al).v] (Sp.mk lo hi al).v), (22, .call 14 [(Sp.mk lo hi al).v, .string k] (.bool false)), (29, .cmp .eql 4 (.bool (M.has k)) (.bool false) (.bool true))])
    (by kernel_rfl) ⟨by kernel_rfl, ⟨fun _ h => load_30 h.2, ⟨enter_21, fun _ _ => plain_any _ _⟩, fun _ h => load_28 h.1.1, fun _ h => load_28 h.1.2, ⟨enter_22, fun _ _ => hrm _⟩, cmp_28 _, fun _ h => load_30 h.2, fun _ h => load_28 h.1.2, ⟨enter_13, fun _ _ => of_any _ _⟩, fun _ h => load_28 h.1.1, ⟨enter_13, fun _ _ => of_any _ _⟩, ⟨enter_20, fun _ _ => hmc _⟩, cmp_30 _, fun _ h => load_30 h.2, ⟨enter_14, fun _ _ => has_any _ _ _⟩, fun _ h => load_28 h.1.1, ⟨enter_13, fun _ _ => of_any _ _⟩, ⟨enter_14, fun _ _ => hha _⟩, cmp_bool hmm, trivial⟩,
      fun β => by kernel_rfl, fun β => by kernel_rfl, fun β => by kernel_rfl, by kernel_rfl, hS', by rw [drew_size]; omega, fun _ _ h => (by cases h), fun _ _ _ _ h => (by cases h)⟩
    ⟨hAB, hM⟩ rfl (fun _ _ h => (by cases h)) ?_
  intro β w4 _ hz4 b4 _ _ _
  refine (by assumption : ∀ (a : Act) (w : World), Code.wp Try.prog _ _ a w → _) _ _ (wp_ret ?_)
  exact bodyPost_ret (v := .bool true) (by kernel_rfl) (by kernel_rfl) ⟨rfl, B3.drew.trans (b4.mono (by omega))⟩
theorem meetsLaw_any (a b : Sp) (k : ByteArray) (w : World) : Calls Try.prog 5 #[a.v, b.v, .string k] w fun e w' => e = .returned (.bool true) ∧ Below w.heap.size w w' := by
  obtain ⟨lo, hi, al⟩ := a
  obtain ⟨lo', hi', al'⟩ := b
  cases hs : ((Sp.mk lo hi al).short && (Sp.mk lo' hi' al').short) with
  | false => exact meets_s lo hi al lo' hi' al' k w hs
  | true =>
    cases d9 : decide ((1100 : Int) < (k.size : Int)) with
    | true => exact meets_k lo hi al lo' hi' al' k w hs d9
    | false =>
      cases hh : (Sp.mk lo hi al).has k
      · exact meets_f lo hi al lo' hi' al' k w hs d9 hh
      · exact meets_t lo hi al lo' hi' al' k w hs d9 hh
end Go.Proofs.Ytkafbjnhjmlabaa
