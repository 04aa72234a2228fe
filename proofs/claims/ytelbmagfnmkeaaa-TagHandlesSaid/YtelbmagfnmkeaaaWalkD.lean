/- TagBack answers true of any numbers; what the frames take. Conditions: numbers are of their kinds' bits. -/
import Derived.Test.YtelbmagfnmkeaaaWalkC
namespace Go.Proofs.Ytelbmagfnmkeaaa
open Go.RowKit Go.Op
set_option maxRecDepth 100000

/-- What was put together is taken apart as it was. -/
theorem back_is {P G V : Int} (p0 : 0 ≤ P) (p1 : P < 65535) (g0 : 0 ≤ G) (g1 : G < 16384) (v0 : 0 ≤ V) (v1 : V < 1073741825) :
    isH (hand P G) = true ∧ placeOf (hand P G) = P ∧ genOf (hand P G) = G ∧ to (word (hand P G) V) = hand P G ∧ stamp (word (hand P G) V) = V ∧ to (word 0 V) = 0 ∧ stamp (word 0 V) = V ∧ word 0 V < word (hand P G) V := by
  have e : hand P G = G * 65536 + P + 1 := if_pos (by omega)
  have i : isH (hand P G) = true := decide_eq_true (by omega)
  have b : 0 < hand P G ∧ hand P G < 1073741824 := by omega
  have w : word (hand P G) V = V * 2147483648 + hand P G := if_pos ⟨Or.inr i, by omega, by omega⟩
  have z : word 0 V = V * 2147483648 + 0 := if_pos ⟨Or.inl rfl, by omega, by omega⟩
  refine ⟨i, ?_, ?_, ?_, ?_, ?_, ?_, by omega⟩
  · exact (if_pos i).trans (by omega)
  · exact (if_pos i).trans (by omega)
  · have m : word (hand P G) V % 2147483648 = hand P G := by omega
    unfold to
    rw [m]
    exact if_pos ⟨by omega, i⟩
  · have m : word (hand P G) V % 2147483648 = hand P G := by omega
    unfold stamp
    rw [m]
    exact (if_pos ⟨by omega, Or.inr i⟩).trans (by omega)
  · have m : word 0 V % 2147483648 = 0 := by omega
    unfold to
    rw [m]
    exact if_neg (fun a => by have := isH_in a.2; omega)
  · have m : word 0 V % 2147483648 = 0 := by omega
    unfold stamp
    rw [m]
    exact (if_pos ⟨by omega, Or.inl rfl⟩).trans (by omega)
set_option maxHeartbeats 1000000 in
theorem back_any (p g v : Nat) (hp : p < 65536) (hg : g < 65536) (hv : v < 4294967296) (w : World) : Calls Try.prog 5 #[.int .u16 (p : Int), .int .u16 (g : Int), .int .u32 (v : Int)] w fun e w' => e = .returned (.bool true) ∧ w = w' := by
  obtain ⟨b1, b2, b3, b4, b5, b6, b7, b8⟩ := back_is (P := (p : Int) % 65535) (G := (g : Int) % 16384) (V := (v : Int) % 1073741825) (by omega) (by omega) (by omega) (by omega) (by omega) (by omega)
  have ha := fun w => handle_any ((p : Int) % 65535) ((g : Int) % 16384) w
  have hb := fun w => word_any (hand ((p : Int) % 65535) ((g : Int) % 16384)) ((v : Int) % 1073741825) w
  have hc := fun w => word_any 0 ((v : Int) % 1073741825) w
  have hd := fun w => right_any (hand ((p : Int) % 65535) ((g : Int) % 16384)) w
  have he := fun w => place_any (hand ((p : Int) % 65535) ((g : Int) % 16384)) w
  have hf := fun w => gen_any (hand ((p : Int) % 65535) ((g : Int) % 16384)) w
  have hi := fun w => to_any (word (hand ((p : Int) % 65535) ((g : Int) % 16384)) ((v : Int) % 1073741825)) w
  have hj := fun w => stamp_any (word (hand ((p : Int) % 65535) ((g : Int) % 16384)) ((v : Int) % 1073741825)) w
  have hk := fun w => to_any (word 0 ((v : Int) % 1073741825)) w
  have hl := fun w => stamp_any (word 0 ((v : Int) % 1073741825)) w
  rw [b1] at hd
  rw [b2] at he
  rw [b3] at hf
  rw [b4] at hi
  rw [b5] at hj
  rw [b6] at hk
  rw [b7] at hl
  clear b1 b2 b3 b4 b5 b6 b7
  generalize word 0 ((v : Int) % 1073741825) = Z at *
  generalize word (hand ((p : Int) % 65535) ((g : Int) % 16384)) ((v : Int) % 1073741825) = W at *
  generalize hand ((p : Int) % 65535) ((g : Int) % 16384) = H at *
  go_enter Try.func5, Try.ntmps5
  go_wp2_with fail
  refine (awake_any _).mono ?_
  rintro e w1 ⟨rfl, rfl⟩
  go_wp2_with fail
  refine (ha _).mono ?_
  rintro e w1 ⟨rfl, rfl⟩
  go_wp2_with fail
  refine (hb _).mono ?_
  rintro e w1 ⟨rfl, rfl⟩
  go_wp2_with fail
  refine (hc _).mono ?_
  rintro e w1 ⟨rfl, rfl⟩
  go_wp2_with fail
  refine (hd _).mono ?_
  rintro e w1 ⟨rfl, rfl⟩
  go_wp2_with fail
  refine (he _).mono ?_
  rintro e w1 ⟨rfl, rfl⟩
  go_wp2_with fail
  refine (hf _).mono ?_
  rintro e w1 ⟨rfl, rfl⟩
  go_wp2_with fail
  refine (hi _).mono ?_
  rintro e w1 ⟨rfl, rfl⟩
  go_wp2_with fail
  refine (hj _).mono ?_
  rintro e w1 ⟨rfl, rfl⟩
  go_wp2_with fail
  refine (hk _).mono ?_
  rintro e w1 ⟨rfl, rfl⟩
  go_wp2_with fail
  refine (hl _).mono ?_
  rintro e w1 ⟨rfl, rfl⟩
  go_wp2
  go_ret
  exact ⟨rfl, rfl⟩
theorem nat_u16 {a : Int} (h : (Lit.int .u16 a).wf = true) : ∃ n : Nat, a = (n : Int) ∧ n < 65536 := by
  simp [Lit.wf, IntKind.min, IntKind.max, IntKind.signed, IntKind.bits] at h
  exact ⟨a.toNat, by omega, by omega⟩
theorem nat_u32 {a : Int} (h : (Lit.int .u32 a).wf = true) : ∃ n : Nat, a = (n : Int) ∧ n < 4294967296 := by
  simp [Lit.wf, IntKind.min, IntKind.max, IntKind.signed, IntKind.bits] at h
  exact ⟨a.toNat, by omega, by omega⟩
theorem i64_below {a : Int} (h : (Lit.int .i64 a).wf = true) : a < 9223372036854775808 := by
  simp [Lit.wf, IntKind.min, IntKind.max, IntKind.signed, IntKind.bits] at h
  omega
theorem same_below {Q : Ending → Prop} {w : World} : ∀ e w', Q e ∧ w = w' → Q e ∧ Below w.heap.size w w' := by
  rintro e w' ⟨h, rfl⟩
  exact ⟨h, Below.refl _ _⟩
theorem handlesLaw (p g h : Int) (w : World) : Calls Try.prog 3 #[.int .i64 p, .int .i64 g, .int .i64 h] w fun e w' => e = .returned (.bool true) ∧ Below w.heap.size w w' := (handles_any p g h w).mono same_below
theorem wordsLaw (h v x : Int) (hx : (Lit.int .i64 x).wf = true) (w : World) : Calls Try.prog 4 #[.int .i64 h, .int .i64 v, .int .i64 x] w fun e w' => e = .returned (.bool true) ∧ Below w.heap.size w w' := (words_any h v x (i64_below hx) w).mono same_below
theorem backLaw (p g v : Int) (hp : (Lit.int .u16 p).wf = true) (hg : (Lit.int .u16 g).wf = true) (hv : (Lit.int .u32 v).wf = true) (w : World) : Calls Try.prog 5 #[.int .u16 p, .int .u16 g, .int .u32 v] w fun e w' => e = .returned (.bool true) ∧ Below w.heap.size w w' := by
  obtain ⟨a, rfl, ha⟩ := nat_u16 hp
  obtain ⟨b, rfl, hb⟩ := nat_u16 hg
  obtain ⟨c, rfl, hc⟩ := nat_u32 hv
  exact (back_any a b c ha hb hc w).mono same_below
theorem unlikeLaw (h g v u : Int) (w : World) : Calls Try.prog 6 #[.int .i64 h, .int .i64 g, .int .i64 v, .int .i64 u] w fun e w' => e = .returned (.bool true) ∧ Below w.heap.size w w' := (unlike_any h g v u w).mono same_below
end Go.Proofs.Ytelbmagfnmkeaaa
