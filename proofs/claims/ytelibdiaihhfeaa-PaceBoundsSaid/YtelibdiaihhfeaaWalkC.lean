/- PaceSettles answers true of any rate and any byte; what the frames take. Conditions: a byte is less than 256, a number of 16 bits less than 65536. -/
import Derived.Test.YtelibdiaihhfeaaWalkB
namespace Go.Proofs.Ytelibdiaihhfeaa
open Go.RowKit Go.Op
set_option maxRecDepth 100000

set_option maxHeartbeats 1000000 in
theorem settles_any (r : Int) (n : Nat) (hn : n < 256) (w : World) : Calls Try.prog 5 #[.int .i64 r, .int .u8 (n : Int)] w fun e w' => e = .returned (.bool true) ∧ w = w' := by
  have HF := Lib.hid (fun k w => rate_any (went r (n : Int) k) (n : Int) w)
  have HE := Lib.hid (went_end r (n : Int) ⟨by omega, by omega⟩)
  have HI := Lib.hid (went_in r (n : Int))
  go_enter Try.func5, Try.ntmps5
  go_wp2_with fail
  refine (awake_any _).mono ?_
  rintro e w1 ⟨rfl, rfl⟩
  go_wp2
  go_loop [0, 5] (fun rv iv => ∃ k : Nat, k ≤ 40 ∧ iv = .int .i64 (k : Int) ∧ rv = .int .i64 (went r (n : Int) k)) (fun _ iv => 40 - (intOf iv).toNat)
  case atStart => exact ⟨0, by omega, rfl, rfl⟩
  case round =>
    obtain ⟨k, hk, rfl, rfl⟩ := hrel
    by_cases h1 : k < 40
    · have i1 : (k : Int) < 40 := by omega
      have hf := fun w => HF.out k w
      have HS := Lib.hid (show rated (went r (n : Int) k) (n : Int) = went r (n : Int) (k + 1) from rfl)
      go_wp2_with fail
      refine (hf _).mono ?_
      rintro e w1 ⟨rfl, rfl⟩
      go_wp2
      go_round
      case rel => exact ⟨k + 1, by omega, by go_num, by rw [HS.out]⟩
      case measure => simp [intOf]; omega
    · obtain rfl : k = 40 := by omega
      obtain ⟨p1, p2⟩ := HE.out
      obtain ⟨p3, p4⟩ := HI.out
      generalize went r (n : Int) 40 = x at *
      have q1 : decide (-3 ≤ x - 16 * (n : Int)) = true := decide_eq_true p1
      have q2 : decide (x - 16 * (n : Int) ≤ 3) = true := decide_eq_true p2
      go_wp2
      go_ret
      exact ⟨rfl, rfl⟩
theorem nat_u16 {a : Int} (h : (Lit.int .u16 a).wf = true) : ∃ n : Nat, a = (n : Int) ∧ n < 65536 := by
  simp [Lit.wf, IntKind.min, IntKind.max, IntKind.signed, IntKind.bits] at h
  exact ⟨a.toNat, by omega, by omega⟩
theorem nat_u8 {a : Int} (h : (Lit.int .u8 a).wf = true) : ∃ n : Nat, a = (n : Int) ∧ n < 256 := by
  simp [Lit.wf, IntKind.min, IntKind.max, IntKind.signed, IntKind.bits] at h
  exact ⟨a.toNat, by omega, by omega⟩
theorem same_below {Q : Ending → Prop} {w : World} : ∀ e w', Q e ∧ w = w' → Q e ∧ Below w.heap.size w w' := by
  rintro e w' ⟨h, rfl⟩
  exact ⟨h, Below.refl _ _⟩
theorem playsLaw (r n lo hi : Int) (w : World) : Calls Try.prog 3 #[.int .i64 r, .int .i64 n, .int .i64 lo, .int .i64 hi] w fun e w' => e = .returned (.bool true) ∧ Below w.heap.size w w' := (plays_any r n lo hi w).mono same_below
theorem boundsLaw (a b n lo hi : Int) (w : World) : Calls Try.prog 4 #[.int .i64 a, .int .i64 b, .int .i64 n, .int .i64 lo, .int .i64 hi] w fun e w' => e = .returned (.bool true) ∧ Below w.heap.size w w' := (bounds_any a b n lo hi w).mono same_below
theorem settlesLaw (r b : Int) (hb : (Lit.int .u8 b).wf = true) (w : World) : Calls Try.prog 5 #[.int .i64 r, .int .u8 b] w fun e w' => e = .returned (.bool true) ∧ Below w.heap.size w w' := by
  obtain ⟨n, rfl, hn⟩ := nat_u8 hb
  exact (settles_any r n hn w).mono same_below
theorem apartLaw (a b l : Int) (ha : (Lit.int .u16 a).wf = true) (hb : (Lit.int .u16 b).wf = true) (w : World) : Calls Try.prog 6 #[.int .u16 a, .int .u16 b, .int .i64 l] w fun e w' => e = .returned (.bool true) ∧ Below w.heap.size w w' := by
  obtain ⟨m, rfl, hm⟩ := nat_u16 ha
  obtain ⟨n, rfl, hn⟩ := nat_u16 hb
  exact (apart_any m n hm hn l w).mono same_below
end Go.Proofs.Ytelibdiaihhfeaa
