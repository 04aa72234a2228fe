/- What the reference's Width answers at any place of a text: the width of the rune that stands there; 0: none does. Condition: the text has at most 1000 bytes. -/
import Derived.Test.YtponiboiijgllaaDoorRWalkA
namespace Go.Proofs.YtponiboiijgllaaDoor
open Go.RowKit
set_option maxRecDepth 100000

theorem in_int (s : ByteArray) (k : Int) (lo hi : Int) (w : World) (hs : s.size ≤ 1000000) (h0 : 0 ≤ k) (h1 : k ≤ 10000000) : Calls Tryd.prog 77 #[.string s, .int .i64 k, .int .u8 lo, .int .u8 hi] w fun e w' => e = .returned (.bool (inL (s.data.toList.drop k.toNat) lo hi)) ∧ w = w' := by
  obtain ⟨n, rfl⟩ := Int.eq_ofNat_of_zero_le h0
  exact in_any s n lo hi w hs (by omega)
/-- The nine questions on the first byte. -/
structure Lead (s : ByteArray) (i : Nat) (b0 b1 b2 b3 b4 b5 b6 b7 b8 : Bool) : Prop where
  h0 : inL (s.data.toList.drop i) 0 127 = b0
  h1 : inL (s.data.toList.drop i) 194 223 = b1
  h2 : inL (s.data.toList.drop i) 224 224 = b2
  h3 : inL (s.data.toList.drop i) 225 236 = b3
  h4 : inL (s.data.toList.drop i) 237 237 = b4
  h5 : inL (s.data.toList.drop i) 238 239 = b5
  h6 : inL (s.data.toList.drop i) 240 240 = b6
  h7 : inL (s.data.toList.drop i) 241 243 = b7
  h8 : inL (s.data.toList.drop i) 244 244 = b8

theorem lead_one (s : ByteArray) (i : Nat) (hi : i < s.size) (h : (s[i]'hi).toNat ≤ 127) : Lead s i true false false false false false false false false := by
  constructor <;> (rw [inL_get s i _ _ hi]; simp; omega)
theorem lead_bad (s : ByteArray) (i : Nat) (hi : i < s.size) (h : (128 ≤ (s[i]'hi).toNat ∧ (s[i]'hi).toNat ≤ 193) ∨ 245 ≤ (s[i]'hi).toNat) : Lead s i false false false false false false false false false := by
  constructor <;> (rw [inL_get s i _ _ hi]; simp; omega)
theorem lead_two (s : ByteArray) (i : Nat) (hi : i < s.size) (h : 194 ≤ (s[i]'hi).toNat ∧ (s[i]'hi).toNat ≤ 223) : Lead s i false true false false false false false false false := by
  constructor <;> (rw [inL_get s i _ _ hi]; simp; omega)
theorem lead_E0 (s : ByteArray) (i : Nat) (hi : i < s.size) (h : (s[i]'hi).toNat = 224) : Lead s i false false true false false false false false false := by
  constructor <;> (rw [inL_get s i _ _ hi]; simp; omega)
theorem lead_E1 (s : ByteArray) (i : Nat) (hi : i < s.size) (h : 225 ≤ (s[i]'hi).toNat ∧ (s[i]'hi).toNat ≤ 236) : Lead s i false false false true false false false false false := by
  constructor <;> (rw [inL_get s i _ _ hi]; simp; omega)
theorem lead_ED (s : ByteArray) (i : Nat) (hi : i < s.size) (h : (s[i]'hi).toNat = 237) : Lead s i false false false false true false false false false := by
  constructor <;> (rw [inL_get s i _ _ hi]; simp; omega)
theorem lead_EE (s : ByteArray) (i : Nat) (hi : i < s.size) (h : 238 ≤ (s[i]'hi).toNat ∧ (s[i]'hi).toNat ≤ 239) : Lead s i false false false false false true false false false := by
  constructor <;> (rw [inL_get s i _ _ hi]; simp; omega)
theorem lead_F0 (s : ByteArray) (i : Nat) (hi : i < s.size) (h : (s[i]'hi).toNat = 240) : Lead s i false false false false false false true false false := by
  constructor <;> (rw [inL_get s i _ _ hi]; simp; omega)
theorem lead_F1 (s : ByteArray) (i : Nat) (hi : i < s.size) (h : 241 ≤ (s[i]'hi).toNat ∧ (s[i]'hi).toNat ≤ 243) : Lead s i false false false false false false false true false := by
  constructor <;> (rw [inL_get s i _ _ hi]; simp; omega)
theorem lead_F4 (s : ByteArray) (i : Nat) (hi : i < s.size) (h : (s[i]'hi).toNat = 244) : Lead s i false false false false false false false false true := by
  constructor <;> (rw [inL_get s i _ _ hi]; simp; omega)
set_option maxHeartbeats 1000000 in
theorem width_one (s : ByteArray) (i : Nat) (w : World) (hs : s.size ≤ 1000000) (hi : i < s.size) (hL : Lead s i true false false false false false false false false) :
    Calls Tryd.prog 57 #[.string s, .int .i64 i] w fun e w' => e = .returned (.int .i64 (widL (s.data.toList.drop i))) ∧ w = w' := by
  have H := Lib.hid (widL_eq s.data.toList i (drop_ne hi))
  obtain ⟨l0, l1, l2, l3, l4, l5, l6, l7, l8⟩ := hL
  have n0 : ((i : Nat) : Int).toNat = i := by omega
  have n1 : ((i : Nat) + 1 : Int).toNat = i + 1 := by omega
  have n2 : ((i : Nat) + 2 : Int).toNat = i + 2 := by omega
  have n3 : ((i : Nat) + 3 : Int).toNat = i + 3 := by omega
  go_enter Tryd.func57, Tryd.ntmps57
  go_wp2_with (go_at_call 77; refine (in_int s _ _ _ _ hs (by omega) (by omega)).mono ?_; rintro e w' ⟨rfl, rfl⟩)
  all_goals
    go_ret
    refine ⟨ret_int ?_, rfl⟩
    rw [H.out]
    clear H n0 n1 n2 n3
    simp [widB, *]
set_option maxHeartbeats 1000000 in
theorem width_bad (s : ByteArray) (i : Nat) (w : World) (hs : s.size ≤ 1000000) (hi : i < s.size) (hL : Lead s i false false false false false false false false false) :
    Calls Tryd.prog 57 #[.string s, .int .i64 i] w fun e w' => e = .returned (.int .i64 (widL (s.data.toList.drop i))) ∧ w = w' := by
  have H := Lib.hid (widL_eq s.data.toList i (drop_ne hi))
  obtain ⟨l0, l1, l2, l3, l4, l5, l6, l7, l8⟩ := hL
  have n0 : ((i : Nat) : Int).toNat = i := by omega
  have n1 : ((i : Nat) + 1 : Int).toNat = i + 1 := by omega
  have n2 : ((i : Nat) + 2 : Int).toNat = i + 2 := by omega
  have n3 : ((i : Nat) + 3 : Int).toNat = i + 3 := by omega
  go_enter Tryd.func57, Tryd.ntmps57
  go_wp2_with (go_at_call 77; refine (in_int s _ _ _ _ hs (by omega) (by omega)).mono ?_; rintro e w' ⟨rfl, rfl⟩)
  all_goals
    go_ret
    refine ⟨ret_int ?_, rfl⟩
    rw [H.out]
    clear H n0 n1 n2 n3
    simp [widB, *]
set_option maxHeartbeats 1000000 in
theorem width_two (s : ByteArray) (i : Nat) (w : World) (hs : s.size ≤ 1000000) (hi : i < s.size) (hL : Lead s i false true false false false false false false false) :
    Calls Tryd.prog 57 #[.string s, .int .i64 i] w fun e w' => e = .returned (.int .i64 (widL (s.data.toList.drop i))) ∧ w = w' := by
  have H := Lib.hid (widL_eq s.data.toList i (drop_ne hi))
  obtain ⟨l0, l1, l2, l3, l4, l5, l6, l7, l8⟩ := hL
  have n0 : ((i : Nat) : Int).toNat = i := by omega
  have n1 : ((i : Nat) + 1 : Int).toNat = i + 1 := by omega
  have n2 : ((i : Nat) + 2 : Int).toNat = i + 2 := by omega
  have n3 : ((i : Nat) + 3 : Int).toNat = i + 3 := by omega
  go_enter Tryd.func57, Tryd.ntmps57
  go_wp2_with (go_at_call 77; refine (in_int s _ _ _ _ hs (by omega) (by omega)).mono ?_; rintro e w' ⟨rfl, rfl⟩)
  all_goals
    go_ret
    refine ⟨ret_int ?_, rfl⟩
    rw [H.out]
    clear H n0 n1 n2 n3
    simp [widB, *]
set_option maxHeartbeats 1000000 in
theorem width_E0 (s : ByteArray) (i : Nat) (w : World) (hs : s.size ≤ 1000000) (hi : i < s.size) (hL : Lead s i false false true false false false false false false) :
    Calls Tryd.prog 57 #[.string s, .int .i64 i] w fun e w' => e = .returned (.int .i64 (widL (s.data.toList.drop i))) ∧ w = w' := by
  have H := Lib.hid (widL_eq s.data.toList i (drop_ne hi))
  obtain ⟨l0, l1, l2, l3, l4, l5, l6, l7, l8⟩ := hL
  have n0 : ((i : Nat) : Int).toNat = i := by omega
  have n1 : ((i : Nat) + 1 : Int).toNat = i + 1 := by omega
  have n2 : ((i : Nat) + 2 : Int).toNat = i + 2 := by omega
  have n3 : ((i : Nat) + 3 : Int).toNat = i + 3 := by omega
  go_enter Tryd.func57, Tryd.ntmps57
  go_wp2_with (go_at_call 77; refine (in_int s _ _ _ _ hs (by omega) (by omega)).mono ?_; rintro e w' ⟨rfl, rfl⟩)
  all_goals
    go_ret
    refine ⟨ret_int ?_, rfl⟩
    rw [H.out]
    clear H n0 n1 n2 n3
    simp [widB, *]
set_option maxHeartbeats 1000000 in
theorem width_E1 (s : ByteArray) (i : Nat) (w : World) (hs : s.size ≤ 1000000) (hi : i < s.size) (hL : Lead s i false false false true false false false false false) :
    Calls Tryd.prog 57 #[.string s, .int .i64 i] w fun e w' => e = .returned (.int .i64 (widL (s.data.toList.drop i))) ∧ w = w' := by
  have H := Lib.hid (widL_eq s.data.toList i (drop_ne hi))
  obtain ⟨l0, l1, l2, l3, l4, l5, l6, l7, l8⟩ := hL
  have n0 : ((i : Nat) : Int).toNat = i := by omega
  have n1 : ((i : Nat) + 1 : Int).toNat = i + 1 := by omega
  have n2 : ((i : Nat) + 2 : Int).toNat = i + 2 := by omega
  have n3 : ((i : Nat) + 3 : Int).toNat = i + 3 := by omega
  go_enter Tryd.func57, Tryd.ntmps57
  go_wp2_with (go_at_call 77; refine (in_int s _ _ _ _ hs (by omega) (by omega)).mono ?_; rintro e w' ⟨rfl, rfl⟩)
  all_goals
    go_ret
    refine ⟨ret_int ?_, rfl⟩
    rw [H.out]
    clear H n0 n1 n2 n3
    simp [widB, *]
set_option maxHeartbeats 1000000 in
theorem width_ED (s : ByteArray) (i : Nat) (w : World) (hs : s.size ≤ 1000000) (hi : i < s.size) (hL : Lead s i false false false false true false false false false) :
    Calls Tryd.prog 57 #[.string s, .int .i64 i] w fun e w' => e = .returned (.int .i64 (widL (s.data.toList.drop i))) ∧ w = w' := by
  have H := Lib.hid (widL_eq s.data.toList i (drop_ne hi))
  obtain ⟨l0, l1, l2, l3, l4, l5, l6, l7, l8⟩ := hL
  have n0 : ((i : Nat) : Int).toNat = i := by omega
  have n1 : ((i : Nat) + 1 : Int).toNat = i + 1 := by omega
  have n2 : ((i : Nat) + 2 : Int).toNat = i + 2 := by omega
  have n3 : ((i : Nat) + 3 : Int).toNat = i + 3 := by omega
  go_enter Tryd.func57, Tryd.ntmps57
  go_wp2_with (go_at_call 77; refine (in_int s _ _ _ _ hs (by omega) (by omega)).mono ?_; rintro e w' ⟨rfl, rfl⟩)
  all_goals
    go_ret
    refine ⟨ret_int ?_, rfl⟩
    rw [H.out]
    clear H n0 n1 n2 n3
    simp [widB, *]
set_option maxHeartbeats 1000000 in
theorem width_EE (s : ByteArray) (i : Nat) (w : World) (hs : s.size ≤ 1000000) (hi : i < s.size) (hL : Lead s i false false false false false true false false false) :
    Calls Tryd.prog 57 #[.string s, .int .i64 i] w fun e w' => e = .returned (.int .i64 (widL (s.data.toList.drop i))) ∧ w = w' := by
  have H := Lib.hid (widL_eq s.data.toList i (drop_ne hi))
  obtain ⟨l0, l1, l2, l3, l4, l5, l6, l7, l8⟩ := hL
  have n0 : ((i : Nat) : Int).toNat = i := by omega
  have n1 : ((i : Nat) + 1 : Int).toNat = i + 1 := by omega
  have n2 : ((i : Nat) + 2 : Int).toNat = i + 2 := by omega
  have n3 : ((i : Nat) + 3 : Int).toNat = i + 3 := by omega
  go_enter Tryd.func57, Tryd.ntmps57
  go_wp2_with (go_at_call 77; refine (in_int s _ _ _ _ hs (by omega) (by omega)).mono ?_; rintro e w' ⟨rfl, rfl⟩)
  all_goals
    go_ret
    refine ⟨ret_int ?_, rfl⟩
    rw [H.out]
    clear H n0 n1 n2 n3
    simp [widB, *]
set_option maxHeartbeats 1000000 in
theorem width_F0 (s : ByteArray) (i : Nat) (w : World) (hs : s.size ≤ 1000000) (hi : i < s.size) (hL : Lead s i false false false false false false true false false) :
    Calls Tryd.prog 57 #[.string s, .int .i64 i] w fun e w' => e = .returned (.int .i64 (widL (s.data.toList.drop i))) ∧ w = w' := by
  have H := Lib.hid (widL_eq s.data.toList i (drop_ne hi))
  obtain ⟨l0, l1, l2, l3, l4, l5, l6, l7, l8⟩ := hL
  have n0 : ((i : Nat) : Int).toNat = i := by omega
  have n1 : ((i : Nat) + 1 : Int).toNat = i + 1 := by omega
  have n2 : ((i : Nat) + 2 : Int).toNat = i + 2 := by omega
  have n3 : ((i : Nat) + 3 : Int).toNat = i + 3 := by omega
  go_enter Tryd.func57, Tryd.ntmps57
  go_wp2_with (go_at_call 77; refine (in_int s _ _ _ _ hs (by omega) (by omega)).mono ?_; rintro e w' ⟨rfl, rfl⟩)
  all_goals
    go_ret
    refine ⟨ret_int ?_, rfl⟩
    rw [H.out]
    clear H n0 n1 n2 n3
    simp [widB, *]
set_option maxHeartbeats 1000000 in
theorem width_F1 (s : ByteArray) (i : Nat) (w : World) (hs : s.size ≤ 1000000) (hi : i < s.size) (hL : Lead s i false false false false false false false true false) :
    Calls Tryd.prog 57 #[.string s, .int .i64 i] w fun e w' => e = .returned (.int .i64 (widL (s.data.toList.drop i))) ∧ w = w' := by
  have H := Lib.hid (widL_eq s.data.toList i (drop_ne hi))
  obtain ⟨l0, l1, l2, l3, l4, l5, l6, l7, l8⟩ := hL
  have n0 : ((i : Nat) : Int).toNat = i := by omega
  have n1 : ((i : Nat) + 1 : Int).toNat = i + 1 := by omega
  have n2 : ((i : Nat) + 2 : Int).toNat = i + 2 := by omega
  have n3 : ((i : Nat) + 3 : Int).toNat = i + 3 := by omega
  go_enter Tryd.func57, Tryd.ntmps57
  go_wp2_with (go_at_call 77; refine (in_int s _ _ _ _ hs (by omega) (by omega)).mono ?_; rintro e w' ⟨rfl, rfl⟩)
  all_goals
    go_ret
    refine ⟨ret_int ?_, rfl⟩
    rw [H.out]
    clear H n0 n1 n2 n3
    simp [widB, *]
set_option maxHeartbeats 1000000 in
theorem width_F4 (s : ByteArray) (i : Nat) (w : World) (hs : s.size ≤ 1000000) (hi : i < s.size) (hL : Lead s i false false false false false false false false true) :
    Calls Tryd.prog 57 #[.string s, .int .i64 i] w fun e w' => e = .returned (.int .i64 (widL (s.data.toList.drop i))) ∧ w = w' := by
  have H := Lib.hid (widL_eq s.data.toList i (drop_ne hi))
  obtain ⟨l0, l1, l2, l3, l4, l5, l6, l7, l8⟩ := hL
  have n0 : ((i : Nat) : Int).toNat = i := by omega
  have n1 : ((i : Nat) + 1 : Int).toNat = i + 1 := by omega
  have n2 : ((i : Nat) + 2 : Int).toNat = i + 2 := by omega
  have n3 : ((i : Nat) + 3 : Int).toNat = i + 3 := by omega
  go_enter Tryd.func57, Tryd.ntmps57
  go_wp2_with (go_at_call 77; refine (in_int s _ _ _ _ hs (by omega) (by omega)).mono ?_; rintro e w' ⟨rfl, rfl⟩)
  all_goals
    go_ret
    refine ⟨ret_int ?_, rfl⟩
    rw [H.out]
    clear H n0 n1 n2 n3
    simp [widB, *]
theorem width_any (s : ByteArray) (i : Nat) (w : World) (hs : s.size ≤ 1000000) (hi : i < s.size) :
    Calls Tryd.prog 57 #[.string s, .int .i64 i] w fun e w' => e = .returned (.int .i64 (widL (s.data.toList.drop i))) ∧ w = w' := by
  have hu := u8_lt (s[i]'hi)
  by_cases hone : (s[i]'hi).toNat ≤ 127
  · exact width_one s i w hs hi (lead_one s i hi hone)
  by_cases hbad : (128 ≤ (s[i]'hi).toNat ∧ (s[i]'hi).toNat ≤ 193) ∨ 245 ≤ (s[i]'hi).toNat
  · exact width_bad s i w hs hi (lead_bad s i hi hbad)
  by_cases htwo : 194 ≤ (s[i]'hi).toNat ∧ (s[i]'hi).toNat ≤ 223
  · exact width_two s i w hs hi (lead_two s i hi htwo)
  by_cases hE0 : (s[i]'hi).toNat = 224
  · exact width_E0 s i w hs hi (lead_E0 s i hi hE0)
  by_cases hE1 : 225 ≤ (s[i]'hi).toNat ∧ (s[i]'hi).toNat ≤ 236
  · exact width_E1 s i w hs hi (lead_E1 s i hi hE1)
  by_cases hED : (s[i]'hi).toNat = 237
  · exact width_ED s i w hs hi (lead_ED s i hi hED)
  by_cases hEE : 238 ≤ (s[i]'hi).toNat ∧ (s[i]'hi).toNat ≤ 239
  · exact width_EE s i w hs hi (lead_EE s i hi hEE)
  by_cases hF0 : (s[i]'hi).toNat = 240
  · exact width_F0 s i w hs hi (lead_F0 s i hi hF0)
  by_cases hF1 : 241 ≤ (s[i]'hi).toNat ∧ (s[i]'hi).toNat ≤ 243
  · exact width_F1 s i w hs hi (lead_F1 s i hi hF1)
  exact width_F4 s i w hs hi (lead_F4 s i hi (by omega))
end Go.Proofs.YtponiboiijgllaaDoor
