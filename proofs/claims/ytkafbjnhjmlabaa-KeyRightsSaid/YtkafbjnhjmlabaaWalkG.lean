/- KeyRights answers true. Condition: its number is not below 0. -/
import Derived.Test.YtkafbjnhjmlabaaWalkF
import Derived.Laws.IdiomStrings
import Derived.Laws.MakeOwn
namespace Go.Proofs.Ytkafbjnhjmlabaa
open Go.RowKit Go.Op
set_option maxRecDepth 100000

def zeros (n : Nat) : ByteArray := ⟨(List.replicate n (0 : UInt8)).toArray⟩
theorem zeros_size (n : Nat) : (zeros n).size = n := by show (List.replicate n (0 : UInt8)).toArray.size = n; simp
theorem info5 : (Try.prog.info? 5).map (fun i => (i.zero, i.size, i.bytes)) = some (some (.int .u8 0), 1, 1) := by kernel_rfl
theorem make_zeros (n : Nat) (hn : n ≤ 100000) (w : World) : (Instr.makeSlice 24 (.int .i64 n) (.int .i64 n)).run Try.prog w = .ok (.slice (some ⟨w.heap.size, 0, none⟩) n n) (w.alloc (.cells (madeCells #[.int .u8 0] n) 5)) := by
  have h5 := info5
  cases hi : Try.prog.info? 5 with
  | none => rw [hi] at h5; cases h5
  | some i =>
    rw [hi] at h5
    simp only [Option.map_some, Option.some.injEq, Prod.mk.injEq] at h5
    obtain ⟨h1, h2, h3⟩ := h5
    have := run_make (P := Try.prog) w 24 5 i (.int .u8 0) Try.underlying24 hi h1 .i64 .i64 n n (by omega) (by omega) (by rw [h3]; omega) (by omega)
    rw [h2] at this
    simpa [Value.cells] using this
theorem conv_zeros (n : Nat) (w : World) : (convert 24 9 (.slice (some ⟨w.heap.size, 0, none⟩) n n)).run Try.prog (w.alloc (.cells (madeCells #[.int .u8 0] n) 5)) = .ok (.string (zeros n)) (w.alloc (.cells (madeCells #[.int .u8 0] n) 5)) := by
  have := run_convert_bytes_back (P := Try.prog) (w.alloc (.cells (madeCells #[.int .u8 0] n) 5)) 24 9 5 ⟨w.heap.size, 0, none⟩ n (List.replicate n (0 : UInt8)) Try.underlying24 Try.underlying5 Try.underlying9 (fun j hj => by
    simp only [List.length_replicate] at hj
    have : (⟨w.heap.size, 0, none⟩ : Addr).add j = ⟨w.heap.size, j, none⟩ := by unfold Addr.add; split <;> simp_all
    rw [this]
    simp [madeCells, hj, Nat.mod_one])
  simpa [zeros] using this

set_option maxHeartbeats 2000000 in
theorem rightsLaw_any (k : ByteArray) (m : Int) (hm0 : 0 ≤ m) (w : World) : Calls Try.prog 3 #[.string k, .int .u32 m] w fun e w' => e = .returned (.bool true) ∧ Below w.heap.size w w' := by
  by_cases h0 : k.size ≤ 1100
  · have d0 : decide ((1100 : Int) < (k.size : Int)) = false := decide_eq_false (by omega)
    have hf := fits_any k
    rw [decide_eq_true (by omega : (k.size : Int) ≤ 65536)] at hf
    obtain ⟨r, hr⟩ : ∃ r : Nat, m.tmod 12 = (r : Int) := ⟨(m.tmod 12).toNat, by rw [Int.tmod_eq_emod_of_nonneg hm0]; omega⟩
    have hr12 : r < 12 := by rw [Int.tmod_eq_emod_of_nonneg hm0] at hr; omega
    have hmk := fun W => make_zeros (65530 + r) (by omega) W
    have hcv := fun W => conv_zeros (65530 + r) W
    have hfz := fun W => fits_any (zeros (65530 + r)) W
    rw [zeros_size] at hfz
    obtain ⟨Z, hZ⟩ : ∃ Z, Z = zeros (65530 + r) := ⟨_, rfl⟩
    rw [← hZ] at hcv hfz
    clear hZ
    have hrt := right_any k
    obtain ⟨b1, b2, hb1, hb2⟩ : ∃ b1 b2 : Bool, decide (0 < (k.size : Int)) = b1 ∧ decide ((k.size : Int) ≤ 1024) = b2 := ⟨_, _, rfl, rfl⟩
    rw [hb1, hb2] at hrt
    obtain ⟨b3, hb3⟩ : ∃ b3 : Bool, decide (((65530 + r : Nat) : Int) ≤ 65536) = b3 := ⟨_, rfl⟩
    rw [hb3] at hfz
    have hm2 : m.tmod 12 < 12 := by omega
    have hm3 : 0 ≤ m.tmod 12 := by omega
    have ec : ((65530 + r : Nat) : Int) = 65530 + (r : Int) := by omega
    simp only [ec] at hmk
    rw [ec] at hb3
    obtain ⟨M, hM⟩ : ∃ M, M = 65530 + r := ⟨_, rfl⟩
    have HM := Lib.hid hM
    simp only [← hM] at hmk hcv
    clear hM ec h0
    have B1 := Below.refl w.heap.size w
    cases b1 <;> cases b2 <;> cases b3
    · have n1 := of_decide_eq_false hb1
      have n2 := of_decide_eq_false hb2
      exfalso
      omega
    · have n1 := of_decide_eq_false hb1
      have n2 := of_decide_eq_false hb2
      exfalso
      omega
    · simp only [Bool.and_true] at hrt
      have n1 := of_decide_eq_false hb1
      have n2 := of_decide_eq_true hb2
      have n3 := of_decide_eq_false hb3
      go_enter Try.func3, Try.ntmps3
      go_wp2_with fail
      refine (awake_any _).mono ?_
      rintro e w1 ⟨rfl, q1⟩
      go_wp2_with fail
      refine (hrt _).mono ?_
      rintro e w2 ⟨rfl, rfl⟩
      go_wp2_with fail
      refine (hf _).mono ?_
      rintro e w2 ⟨rfl, rfl⟩
      go_wp2_with fail
      refine (hfz _).mono ?_
      rintro e w2 ⟨rfl, rfl⟩
      go_wp2
      go_ret
      exact ⟨rfl, (B1.trans q1).alloc q1.size _⟩
    · simp only [Bool.and_true] at hrt
      have n1 := of_decide_eq_false hb1
      have n2 := of_decide_eq_true hb2
      have n3 := of_decide_eq_true hb3
      go_enter Try.func3, Try.ntmps3
      go_wp2_with fail
      refine (awake_any _).mono ?_
      rintro e w1 ⟨rfl, q1⟩
      go_wp2_with fail
      refine (hrt _).mono ?_
      rintro e w2 ⟨rfl, rfl⟩
      go_wp2_with fail
      refine (hf _).mono ?_
      rintro e w2 ⟨rfl, rfl⟩
      go_wp2_with fail
      refine (hfz _).mono ?_
      rintro e w2 ⟨rfl, rfl⟩
      go_wp2
      go_ret
      exact ⟨rfl, (B1.trans q1).alloc q1.size _⟩
    · simp only [Bool.and_false] at hrt
      have n1 := of_decide_eq_true hb1
      have n2 := of_decide_eq_false hb2
      have n3 := of_decide_eq_false hb3
      go_enter Try.func3, Try.ntmps3
      go_wp2_with fail
      refine (awake_any _).mono ?_
      rintro e w1 ⟨rfl, q1⟩
      go_wp2_with fail
      refine (hrt _).mono ?_
      rintro e w2 ⟨rfl, rfl⟩
      go_wp2_with fail
      refine (hf _).mono ?_
      rintro e w2 ⟨rfl, rfl⟩
      go_wp2_with fail
      refine (hfz _).mono ?_
      rintro e w2 ⟨rfl, rfl⟩
      go_wp2
      go_ret
      exact ⟨rfl, (B1.trans q1).alloc q1.size _⟩
    · simp only [Bool.and_false] at hrt
      have n1 := of_decide_eq_true hb1
      have n2 := of_decide_eq_false hb2
      have n3 := of_decide_eq_true hb3
      go_enter Try.func3, Try.ntmps3
      go_wp2_with fail
      refine (awake_any _).mono ?_
      rintro e w1 ⟨rfl, q1⟩
      go_wp2_with fail
      refine (hrt _).mono ?_
      rintro e w2 ⟨rfl, rfl⟩
      go_wp2_with fail
      refine (hf _).mono ?_
      rintro e w2 ⟨rfl, rfl⟩
      go_wp2_with fail
      refine (hfz _).mono ?_
      rintro e w2 ⟨rfl, rfl⟩
      go_wp2
      go_ret
      exact ⟨rfl, (B1.trans q1).alloc q1.size _⟩
    · simp only [Bool.and_true] at hrt
      have n1 := of_decide_eq_true hb1
      have n2 := of_decide_eq_true hb2
      have n3 := of_decide_eq_false hb3
      go_enter Try.func3, Try.ntmps3
      go_wp2_with fail
      refine (awake_any _).mono ?_
      rintro e w1 ⟨rfl, q1⟩
      go_wp2_with fail
      refine (hrt _).mono ?_
      rintro e w2 ⟨rfl, rfl⟩
      go_wp2_with fail
      refine (hf _).mono ?_
      rintro e w2 ⟨rfl, rfl⟩
      go_wp2_with fail
      refine (hfz _).mono ?_
      rintro e w2 ⟨rfl, rfl⟩
      go_wp2
      go_ret
      exact ⟨rfl, (B1.trans q1).alloc q1.size _⟩
    · simp only [Bool.and_true] at hrt
      have n1 := of_decide_eq_true hb1
      have n2 := of_decide_eq_true hb2
      have n3 := of_decide_eq_true hb3
      go_enter Try.func3, Try.ntmps3
      go_wp2_with fail
      refine (awake_any _).mono ?_
      rintro e w1 ⟨rfl, q1⟩
      go_wp2_with fail
      refine (hrt _).mono ?_
      rintro e w2 ⟨rfl, rfl⟩
      go_wp2_with fail
      refine (hf _).mono ?_
      rintro e w2 ⟨rfl, rfl⟩
      go_wp2_with fail
      refine (hfz _).mono ?_
      rintro e w2 ⟨rfl, rfl⟩
      go_wp2
      go_ret
      exact ⟨rfl, (B1.trans q1).alloc q1.size _⟩
  · have d0 : decide ((1100 : Int) < (k.size : Int)) = true := decide_eq_true (by omega)
    clear h0
    go_enter Try.func3, Try.ntmps3
    go_wp2_with fail
    refine (awake_any _).mono ?_
    rintro e w1 ⟨rfl, b1⟩
    go_wp2_with fail
    refine (awake_any _).mono ?_
    rintro e w2 ⟨rfl, b2⟩
    go_wp2
    go_ret
    exact ⟨rfl, b1.trans (b2.mono b1.size)⟩
theorem wf_pos {m : Int} (h : (Lit.int .u32 m).wf = true) : 0 ≤ m := by
  simp [Lit.wf, IntKind.min, IntKind.signed] at h
  omega
end Go.Proofs.Ytkafbjnhjmlabaa
