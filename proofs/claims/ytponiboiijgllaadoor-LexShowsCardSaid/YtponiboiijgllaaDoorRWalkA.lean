/- What the small functions of layer 1 answer: a byte between two, a rune's class, by the code and by the reference. No condition but that a place is within the numbers of the machine. -/
import Derived.Test.YtponiboiijgllaaDoorRows
import Derived.Test.YtponiboiijgllaaDoorRMathC
import Derived.WalkKit
import Derived.WalkSpells
import Derived.WalkLawsBesides
import Derived.Deep.QuietTactic
import Derived.BigQuiet
import Derived.Lib.Hide
namespace Go.Proofs.YtponiboiijgllaaDoor
open Go.RowKit
set_option maxRecDepth 100000

theorem ret_int {k : IntKind} {a b : Int} (h : a = b) : Ending.returned (.int k a) = .returned (.int k b) := by rw [h]
theorem ret_bool {a b : Bool} (h : a = b) : Ending.returned (.bool a) = .returned (.bool b) := by rw [h]

set_option maxHeartbeats 1000000 in
theorem class_any (r : Int) (w : World) : Calls Tryd.prog 26 #[.int .i32 r] w fun e w' => e = .returned (.int .i64 (classZ r)) ∧ w = w' := by
  go_enter Tryd.func26, Tryd.ntmps26
  go_wp2
  all_goals
    go_ret
    refine ⟨ret_int ?_, rfl⟩
    try simp only [beq_iff_eq, beq_eq_false_iff_ne, ne_eq] at *
    unfold classZ
    repeat' split
    all_goals omega

set_option maxHeartbeats 1000000 in
theorem plain_any (r : Int) (w : World) : Calls Tryd.prog 74 #[.int .i32 r] w fun e w' => e = .returned (.bool (plainB r)) ∧ w = w' := by
  go_enter Tryd.func74, Tryd.ntmps74
  go_wp2
  · go_ret
    refine ⟨ret_bool ?_, rfl⟩
    unfold plainB
    rw [Bool.eq_iff_iff]
    simp
    omega
  · go_ret
    refine ⟨ret_bool ?_, rfl⟩
    unfold plainB
    rw [Bool.eq_iff_iff]
    simp
    omega

theorem inL_get (s : ByteArray) (i : Nat) (lo hi : Int) (h : i < s.size) : inL (s.data.toList.drop i) lo hi = decide (lo ≤ (s[i]'h).toNat ∧ ((s[i]'h).toNat : Int) ≤ hi) := by
  rw [List.drop_eq_getElem_cons (by simpa using h)]
  rfl
theorem inL_end (s : ByteArray) (i : Nat) (lo hi : Int) (h : ¬ i < s.size) : inL (s.data.toList.drop i) lo hi = false := by
  rw [List.drop_eq_nil_of_le (by have : s.data.toList.length = s.size := by simp
                                 omega)]
  rfl
set_option maxHeartbeats 1000000 in
theorem in_any (s : ByteArray) (i : Nat) (lo hi : Int) (w : World) (_hs : s.size ≤ 1000000) (_hb : i ≤ 10000000) : Calls Tryd.prog 77 #[.string s, .int .i64 i, .int .u8 lo, .int .u8 hi] w fun e w' => e = .returned (.bool (inL (s.data.toList.drop i) lo hi)) ∧ w = w' := by
  by_cases hlt : i < s.size
  · have H := Lib.hid (inL_get s i lo hi hlt)
    go_enter Tryd.func77, Tryd.ntmps77
    go_wp2
    all_goals
      go_ret
      refine ⟨ret_bool ?_, rfl⟩
      rw [H.out, Bool.eq_iff_iff]
      simp
      omega
  · have H := Lib.hid (inL_end s i lo hi hlt)
    go_enter Tryd.func77, Tryd.ntmps77
    go_wp2
    go_ret
    exact ⟨ret_bool H.out.symm, rfl⟩
end Go.Proofs.YtponiboiijgllaaDoor
