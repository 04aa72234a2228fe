/- KeySpans answers true, whatever span of the reference and text it is handed. No condition. -/
import Derived.Test.YtkafbjnhjmlabaaWalkF
namespace Go.Proofs.Ytkafbjnhjmlabaa
open Go.RowKit Go.Op
set_option maxRecDepth 100000

theorem load_4 {w : World} {p : Addr} {b : Bool} (h : w.cell? p = some (.bool b)) : (Instr.loadAt 4 (.pointer (some p))).run Try.prog w = .ok (.bool b) w := by
  go_simp
theorem load_9 {w : World} {p : Addr} {s : ByteArray} (h : w.cell? p = some (.string s)) : (Instr.loadAt 9 (.pointer (some p))).run Try.prog w = .ok (.string s) w := by
  go_simp
theorem cmp_bool {a b : Bool} (h : a = b) (xo yo : Operand) (w : World) : (eqGuard .eql 4 xo yo (.bool a) (.bool b)).run Try.prog w = .ok () w ∧ (binOp .eql 4 (.bool a) (.bool b)).run Try.prog w = .ok (.bool true) w :=
  ⟨by simp [eqGuard], by subst h; go_simp⟩
theorem cmp_30 (s : Sp) (xo yo : Operand) (w : World) : (eqGuard .eql 30 xo yo s.v s.v).run Try.prog w = .ok () w ∧ (binOp .eql 30 s.v s.v).run Try.prog w = .ok (.bool true) w := by
  unfold Sp.v
  constructor
  · have h : Try.prog.eqGuardType Try.prog.depth 30 = false := by kernel_rfl
    simp [eqGuard, h]
  · go_simp
theorem cmp_28 (s : Sp) (xo yo : Operand) (w : World) : (eqGuard .eql 28 xo yo s.v s.v).run Try.prog w = .ok () w ∧ (binOp .eql 28 s.v s.v).run Try.prog w = .ok (.bool true) w := by
  unfold Sp.v
  constructor
  · have h : Try.prog.eqGuardType Try.prog.depth 28 = false := by kernel_rfl
    simp [eqGuard, h]
  · go_simp
theorem make_whole (w : World) : (Instr.build 30 (Free.zipped [2] [.bool true])).run Try.prog w = .ok whole.v w := by
  unfold Free.zipped Sp.v whole no
  go_simp
theorem enter_14 (xs : Array Value) (w : World) : (callFunc 14 xs).run Try.prog w = .ok (.enter 14 xs) w := by kernel_rfl
theorem enter_15 (xs : Array Value) (w : World) : (callFunc 15 xs).run Try.prog w = .ok (.enter 15 xs) w := by kernel_rfl
theorem enter_16 (xs : Array Value) (w : World) : (callFunc 16 xs).run Try.prog w = .ok (.enter 16 xs) w := by kernel_rfl
theorem enter_17 (xs : Array Value) (w : World) : (callFunc 17 xs).run Try.prog w = .ok (.enter 17 xs) w := by kernel_rfl
theorem enter_18 (xs : Array Value) (w : World) : (callFunc 18 xs).run Try.prog w = .ok (.enter 18 xs) w := by kernel_rfl
theorem enter_19 (xs : Array Value) (w : World) : (callFunc 19 xs).run Try.prog w = .ok (.enter 19 xs) w := by kernel_rfl
theorem enter_21 (xs : Array Value) (w : World) : (callFunc 21 xs).run Try.prog w = .ok (.enter 21 xs) w := by kernel_rfl
theorem enter_22 (xs : Array Value) (w : World) : (callFunc 22 xs).run Try.prog w = .ok (.enter 22 xs) w := by kernel_rfl
theorem whole_has (k : ByteArray) : whole.has k = true := by
  unfold Sp.has whole
  simp [lt_no]
theorem short_yes {lo hi : ByteArray} {al : Bool} (h : (Sp.mk lo hi al).short = true) : lo.size ≤ 1100 ∧ hi.size ≤ 1100 := by simpa [Sp.short] using h
theorem short_1 {lo hi : ByteArray} {al b : Bool} (hb : (Sp.mk lo hi al).short = b) (g c : Nat) (w : World) (h0 : w.cell? ⟨g, 0, none⟩ = some (.string lo)) (h1 : w.cell? ⟨g, 1, none⟩ = some (.string hi)) :
    Calls Try.prog 12 #[.slice (some ⟨g, 0, none⟩) 1 c] w fun e w' => e = .returned (.int .i64 (if b then 1 else 0)) ∧ Below w.heap.size w w' := by
  have := short_one lo hi al g c w h0 h1
  rw [hb] at this
  exact this

set_option maxHeartbeats 2000000 in
theorem spansLaw_any (s : Sp) (k : ByteArray) (w : World) : Calls Try.prog 4 #[s.v, .string k] w fun e w' => e = .returned (.bool true) ∧ Below w.heap.size w w' := by
  obtain ⟨lo, hi, al⟩ := s
  simp only [Sp.v]
  cases hs : (Sp.mk lo hi al).short with
  | false =>
    have hsh := @short_1 lo hi al false hs
    clear hs
    go_enter Try.func4, Try.ntmps4
    go_wp2_with fail
    refine (awake_any _).mono ?_
    rintro e w1 ⟨rfl, b1⟩
    have hz := b1.size
    simp at hz
    have c0 : w1.cell? ⟨w.heap.size, 0, none⟩ = some (.string lo) := keep b1 (by simp [go_sem]) (by simp)
    have c1 : w1.cell? ⟨w.heap.size, 1, none⟩ = some (.string hi) := keep b1 (by simp [go_sem]) (by simp)
    have c2 : w1.cell? ⟨w.heap.size, 2, none⟩ = some (.bool al) := keep b1 (by simp [go_sem]) (by simp)
    have B1 : Below w.heap.size w w1 := ((Below.refl _ _).alloc (Nat.le_refl _) _).trans (b1.mono (by simp))
    clear b1
    go_wp2_with fail
    refine (hsh _ _ _ (by simp [go_sem]) (by simp [go_sem])).mono ?_
    rintro e w2 ⟨rfl, b2⟩
    go_wp2_with fail
    refine (awake_any _).mono ?_
    rintro e w3 ⟨rfl, b3⟩
    go_wp2
    go_ret
    have hz2 := b2.size
    simp at hz2
    exact ⟨rfl, ((B1.alloc (by omega) _).trans (b2.mono (by simp <;> omega))).trans (b3.mono (by omega))⟩
  | true =>
    obtain ⟨s1, s2⟩ := short_yes hs
    have hsh := @short_1 lo hi al true hs
    clear hs
    by_cases h0 : k.size ≤ 1100
    · have d0 : decide ((1100 : Int) < (k.size : Int)) = false := decide_eq_false (by omega)
      have H0 := Lib.hid h0
      have H1 := Lib.hid s1
      have H2 := Lib.hid s2
      clear h0 s1 s2
      go_enter Try.func4, Try.ntmps4
      go_wp2_with fail
      refine (awake_any _).mono ?_
      rintro e w1 ⟨rfl, b1⟩
      have hz := b1.size
      simp at hz
      have c0 : w1.cell? ⟨w.heap.size, 0, none⟩ = some (.string lo) := keep b1 (by simp [go_sem]) (by simp)
      have c1 : w1.cell? ⟨w.heap.size, 1, none⟩ = some (.string hi) := keep b1 (by simp [go_sem]) (by simp)
      have c2 : w1.cell? ⟨w.heap.size, 2, none⟩ = some (.bool al) := keep b1 (by simp [go_sem]) (by simp)
      have B1 : Below w.heap.size w w1 := ((Below.refl _ _).alloc (Nat.le_refl _) _).trans (b1.mono (by simp))
      clear b1
      go_wp2_with fail
      refine (hsh _ _ _ (by simp [go_sem]) (by simp [go_sem])).mono ?_
      rintro e w2 ⟨rfl, b2⟩
      have hz2 := b2.size
      simp at hz2
      have hlt : w.heap.size < w1.heap.size := by omega
      replace c0 : w2.cell? ⟨w.heap.size, 0, none⟩ = some (.string lo) := keep b2 (by simp [go_sem, c0, hlt]) (by simp <;> omega)
      replace c1 : w2.cell? ⟨w.heap.size, 1, none⟩ = some (.string hi) := keep b2 (by simp [go_sem, c1, hlt]) (by simp <;> omega)
      replace c2 : w2.cell? ⟨w.heap.size, 2, none⟩ = some (.bool al) := keep b2 (by simp [go_sem, c2, hlt]) (by simp <;> omega)
      have B2 : Below w.heap.size w w2 := (B1.alloc (by omega) _).trans (b2.mono (by simp <;> omega))
      clear b2 B1
      go_wp2_with fail
      refine (of_any (Sp.mk lo hi al) _).mono ?_
      rintro e w3 ⟨rfl, b3⟩
      have hz3 := b3.size
      replace c0 := keep b3 c0 (by omega)
      replace c1 := keep b3 c1 (by omega)
      replace c2 := keep b3 c2 (by omega)
      have B3 := B2.trans (b3.mono (by omega))
      clear b3 B2
      simp only [Sp.v]
      go_wp2_with fail
      have hlt3 : w.heap.size < w3.heap.size := by omega
      have lh := less_any hi lo (by have := H2.out; omega) (by have := H1.out; omega)
      have ll := less_any lo hi (by have := H1.out; omega) (by have := H2.out; omega)
      have rh := refhas_any (Sp.mk lo hi al) k (by have := H1.out; show lo.size ≤ _; omega) (by have := H2.out; show hi.size ≤ _; omega) (by have := H0.out; omega)
      have hS : ∀ W1 W2 : World, (At w.heap.size 0 ⟨lo, hi, al⟩ W1 ∧ At w3.heap.size 0 ⟨lo, hi, al⟩ W1) → Below (w3.heap.size + 1) W1 W2 → (At w.heap.size 0 ⟨lo, hi, al⟩ W2 ∧ At w3.heap.size 0 ⟨lo, hi, al⟩ W2) := fun W1 W2 h hb => ⟨h.1.keep hb (by omega), h.2.keep hb (by omega)⟩
      cases al with
      | true =>
        have e1 : (Sp.mk lo hi true).good = true := rfl
        have e2 : (Sp.mk lo hi true).empty = false := rfl
        refine Free.region (S := fun W => At w.heap.size 0 ⟨lo, hi, true⟩ W ∧ At w3.heap.size 0 ⟨lo, hi, true⟩ W) (B0 := w3.heap.size + 1) (w0 := _) (om := fun _ => 0) (olds := [])
          (tab := [(0, .load 30 ⟨w3.heap.size, 0, none⟩ (Sp.mk lo hi true).v), (2, .call 14 [(Sp.mk lo hi true).v, .string k] (.bool ((Sp.mk lo hi true).has k))), (3, .load 28 ⟨w.heap.size, 0, none⟩ (Sp.mk lo hi true).v), (5, .call 15 [(Sp.mk lo hi true).v, .string k] (.bool ((Sp.mk lo hi true).has k))),
            (6, .cmp .eql 4 (.bool ((Sp.mk lo hi true).has k)) (.bool ((Sp.mk lo hi true).has k)) (.bool true)), (8, .load 30 ⟨w3.heap.size, 0, none⟩ (Sp.mk lo hi true).v), (9, .call 16 [(Sp.mk lo hi true).v] (.bool (Sp.mk lo hi true).good)), (11, .load 4 ⟨w.heap.size, 2, none⟩ (.bool true)),
            (20, .cmp .eql 4 (.bool (Sp.mk lo hi true).good) (.bool true) (.bool true)), (23, .load 30 ⟨w3.heap.size, 0, none⟩ (Sp.mk lo hi true).v), (24, .call 18 [(Sp.mk lo hi true).v] (.bool (Sp.mk lo hi true).empty)), (26, .load 4 ⟨w.heap.size, 2, none⟩ (.bool true)),
            (36, .cmp .eql 4 (.bool (Sp.mk lo hi true).empty) (.bool false) (.bool true)), (39, .call 19 [] whole.v), (40, .make 30 [2] [.bool true] whole.v), (41, .cmp .eql 30 whole.v whole.v (.bool true)), (44, .call 19 [] whole.v), (46, .call 14 [whole.v, .string k] (.bool (whole.has k)))])
          (by kernel_rfl) ⟨by kernel_rfl, ⟨fun _ h => load_30 h.2, ⟨enter_14, fun _ _ => has_any _ _ _⟩, fun _ h => load_28 h.1, ⟨enter_15, fun _ _ => rh _⟩, cmp_bool rfl, fun _ h => load_30 h.2, ⟨enter_16, fun _ _ => good_any _ _⟩, fun _ h => load_4 h.1.2.2, cmp_bool e1, fun _ h => load_30 h.2, ⟨enter_18, fun _ _ => empty_any _ _⟩, fun _ h => load_4 h.1.2.2, cmp_bool e2, ⟨enter_19, fun _ _ => whole_any _⟩, make_whole, cmp_30 _, ⟨enter_19, fun _ _ => whole_any _⟩, ⟨enter_14, fun _ _ => has_any _ _ _⟩, trivial⟩,
            fun β => by kernel_rfl, fun β => by kernel_rfl, fun β => by kernel_rfl, by kernel_rfl, hS, by rw [drew_size]; simp, fun _ _ h => (by cases h), fun _ _ _ _ h => (by cases h)⟩
          ⟨⟨by simp [go_sem, hlt3, c0], by simp [go_sem, hlt3, c1], by simp [go_sem, hlt3, c2]⟩, ⟨by simp [go_sem], by simp [go_sem], by simp [go_sem]⟩⟩ rfl (fun _ _ h => (by cases h)) ?_
        intro β w4 _ hz4 b4 _ _ _
        rw [drew_size] at hz4
        simp at hz4
        refine (by assumption : ∀ (a : Act) (w : World), Code.wp Try.prog _ _ a w → _) _ _ (wp_ret ?_)
        exact bodyPost_ret (v := .bool (whole.has k)) (by kernel_rfl) (by kernel_rfl) ⟨ret_bool (whole_has k), ((B3.alloc (by omega) _).drew).trans (b4.mono (by omega))⟩
      | false =>
        have e1 : (Sp.mk lo hi false).good = !lt hi lo := rfl
        have e2 : (Sp.mk lo hi false).empty = !lt lo hi := rfl
        refine Free.region (S := fun W => At w.heap.size 0 ⟨lo, hi, false⟩ W ∧ At w3.heap.size 0 ⟨lo, hi, false⟩ W) (B0 := w3.heap.size + 1) (w0 := _) (om := fun _ => 0) (olds := [])
          (tab := [(0, .load 30 ⟨w3.heap.size, 0, none⟩ (Sp.mk lo hi false).v), (2, .call 14 [(Sp.mk lo hi false).v, .string k] (.bool ((Sp.mk lo hi false).has k))), (3, .load 28 ⟨w.heap.size, 0, none⟩ (Sp.mk lo hi false).v), (5, .call 15 [(Sp.mk lo hi false).v, .string k] (.bool ((Sp.mk lo hi false).has k))),
            (6, .cmp .eql 4 (.bool ((Sp.mk lo hi false).has k)) (.bool ((Sp.mk lo hi false).has k)) (.bool true)), (8, .load 30 ⟨w3.heap.size, 0, none⟩ (Sp.mk lo hi false).v), (9, .call 16 [(Sp.mk lo hi false).v] (.bool (Sp.mk lo hi false).good)), (11, .load 4 ⟨w.heap.size, 2, none⟩ (.bool false)),
            (14, .load 9 ⟨w.heap.size, 1, none⟩ (.string hi)), (16, .load 9 ⟨w.heap.size, 0, none⟩ (.string lo)), (17, .call 17 [.string hi, .string lo] (.bool (lt hi lo))), (20, .cmp .eql 4 (.bool (Sp.mk lo hi false).good) (.bool (!lt hi lo)) (.bool true)), (23, .load 30 ⟨w3.heap.size, 0, none⟩ (Sp.mk lo hi false).v), (24, .call 18 [(Sp.mk lo hi false).v] (.bool (Sp.mk lo hi false).empty)), (26, .load 4 ⟨w.heap.size, 2, none⟩ (.bool false)),
            (30, .load 9 ⟨w.heap.size, 0, none⟩ (.string lo)), (32, .load 9 ⟨w.heap.size, 1, none⟩ (.string hi)), (33, .call 17 [.string lo, .string hi] (.bool (lt lo hi))), (36, .cmp .eql 4 (.bool (Sp.mk lo hi false).empty) (.bool (!lt lo hi)) (.bool true)), (39, .call 19 [] whole.v), (40, .make 30 [2] [.bool true] whole.v), (41, .cmp .eql 30 whole.v whole.v (.bool true)), (44, .call 19 [] whole.v), (46, .call 14 [whole.v, .string k] (.bool (whole.has k)))])
          (by kernel_rfl) ⟨by kernel_rfl, ⟨fun _ h => load_30 h.2, ⟨enter_14, fun _ _ => has_any _ _ _⟩, fun _ h => load_28 h.1, ⟨enter_15, fun _ _ => rh _⟩, cmp_bool rfl, fun _ h => load_30 h.2, ⟨enter_16, fun _ _ => good_any _ _⟩, fun _ h => load_4 h.1.2.2, fun _ h => load_9 h.1.2.1, fun _ h => load_9 h.1.1, ⟨enter_17, fun _ _ => lh _⟩, cmp_bool e1, fun _ h => load_30 h.2, ⟨enter_18, fun _ _ => empty_any _ _⟩, fun _ h => load_4 h.1.2.2, fun _ h => load_9 h.1.1, fun _ h => load_9 h.1.2.1, ⟨enter_17, fun _ _ => ll _⟩, cmp_bool e2, ⟨enter_19, fun _ _ => whole_any _⟩, make_whole, cmp_30 _, ⟨enter_19, fun _ _ => whole_any _⟩, ⟨enter_14, fun _ _ => has_any _ _ _⟩, trivial⟩,
            fun β => by kernel_rfl, fun β => by kernel_rfl, fun β => by kernel_rfl, by kernel_rfl, hS, by rw [drew_size]; simp, fun _ _ h => (by cases h), fun _ _ _ _ h => (by cases h)⟩
          ⟨⟨by simp [go_sem, hlt3, c0], by simp [go_sem, hlt3, c1], by simp [go_sem, hlt3, c2]⟩, ⟨by simp [go_sem], by simp [go_sem], by simp [go_sem]⟩⟩ rfl (fun _ _ h => (by cases h)) ?_
        intro β w4 _ hz4 b4 _ _ _
        rw [drew_size] at hz4
        simp at hz4
        refine (by assumption : ∀ (a : Act) (w : World), Code.wp Try.prog _ _ a w → _) _ _ (wp_ret ?_)
        exact bodyPost_ret (v := .bool (whole.has k)) (by kernel_rfl) (by kernel_rfl) ⟨ret_bool (whole_has k), ((B3.alloc (by omega) _).drew).trans (b4.mono (by omega))⟩
    · have d0 : decide ((1100 : Int) < (k.size : Int)) = true := decide_eq_true (by omega)
      clear h0 s1 s2
      go_enter Try.func4, Try.ntmps4
      go_wp2_with fail
      refine (awake_any _).mono ?_
      rintro e w1 ⟨rfl, b1⟩
      have hz := b1.size
      simp at hz
      have c0 : w1.cell? ⟨w.heap.size, 0, none⟩ = some (.string lo) := keep b1 (by simp [go_sem]) (by simp)
      have c1 : w1.cell? ⟨w.heap.size, 1, none⟩ = some (.string hi) := keep b1 (by simp [go_sem]) (by simp)
      have c2 : w1.cell? ⟨w.heap.size, 2, none⟩ = some (.bool al) := keep b1 (by simp [go_sem]) (by simp)
      have B1 : Below w.heap.size w w1 := ((Below.refl _ _).alloc (Nat.le_refl _) _).trans (b1.mono (by simp))
      clear b1
      go_wp2_with fail
      refine (hsh _ _ _ (by simp [go_sem]) (by simp [go_sem])).mono ?_
      rintro e w2 ⟨rfl, b2⟩
      go_wp2_with fail
      refine (awake_any _).mono ?_
      rintro e w3 ⟨rfl, b3⟩
      go_wp2
      go_ret
      have hz2 := b2.size
      simp at hz2
      exact ⟨rfl, ((B1.alloc (by omega) _).trans (b2.mono (by simp <;> omega))).trans (b3.mono (by omega))⟩
end Go.Proofs.Ytkafbjnhjmlabaa
