/- What the reference's Right and Quote answer of any text: what the code's answer. Condition: the text has at most 1000 bytes. -/
import Derived.Test.YtponiboiijgllaaDoorRWalkF
import Derived.Test.YtponiboiijgllaaDoorRWalkG
import Derived.StillTailTactics
namespace Go.Proofs.YtponiboiijgllaaDoor
open Go.RowKit
set_option maxRecDepth 100000

theorem width_ok (s : ByteArray) (i : Nat) (w : World) (hs : s.size ≤ 1000000) (hi : i < s.size) (hok : okB (s.data.toList.drop i) = true) :
    Calls Tryd.prog 57 #[.string s, .int .i64 i] w fun e w' => e = .returned (.int .i64 (Utf8.decode s i).2) ∧ w = w' := by
  refine (width_any s i w hs hi).mono ?_
  rintro e w' ⟨rfl, rfl⟩
  rw [widL_ok hok]
  exact ⟨rfl, rfl⟩
theorem width_no (s : ByteArray) (i : Nat) (w : World) (hs : s.size ≤ 1000000) (hi : i < s.size) (hok : okB (s.data.toList.drop i) = false) :
    Calls Tryd.prog 57 #[.string s, .int .i64 i] w fun e w' => e = .returned (.int .i64 0) ∧ w = w' := by
  refine (width_any s i w hs hi).mono ?_
  rintro e w' ⟨rfl, rfl⟩
  rw [widL_bad hok]
  exact ⟨rfl, rfl⟩

theorem right_stay {s : ByteArray} {k : Nat} (h : k < s.size) (hok : okB (s.data.toList.drop k) = false) : rightS (segsAt s k) k = k := by
  rw [segsAt_step h]
  have : (sgAt s k).ok = false := hok
  simp [rightS, this]
theorem right_go {s : ByteArray} {k : Nat} (h : k < s.size) (hok : okB (s.data.toList.drop k) = true) : rightS (segsAt s k) k = rightS (segsAt s (k + (Utf8.decode s k).2)) (k + (Utf8.decode s k).2) := by
  rw [segsAt_step h]
  have : (sgAt s k).ok = true := hok
  simp [rightS, this, sgAt_bytes s k h]

set_option maxHeartbeats 1000000 in
theorem refright_any (s : ByteArray) (w : World) (hs : s.size ≤ 1000000) :
    Calls Tryd.prog 85 #[.string s] w fun e w' => e = .returned (.int .i64 (rightL s.data.toList)) ∧ w = w' := by
  go_enter Tryd.func85, Tryd.ntmps85
  go_wp2
  go_loop [3] (fun i => ∃ k : Nat, k ≤ s.size ∧ i = .int .i64 k ∧ Hid (rightS (segsAt s k) k = rightL s.data.toList)) (fun i => s.size - (intOf i).toNat)
  case atStart => exact ⟨0, by omega, rfl, rfl⟩
  case round =>
    obtain ⟨k, hk, rfl, H⟩ := hrel
    by_cases hp : k < s.size
    · have hwd := decode_width hp
      by_cases hok : okB (s.data.toList.drop k) = true
      · have H2 := Lib.hid (right_go hp hok)
        have hne : ((((Utf8.decode s k).2 : Nat) : Int) == 0) = false := by simp; omega
        go_wp2_with (go_at_call 57; refine (width_ok s k _ hs hp hok).mono ?_; rintro e w' ⟨rfl, rfl⟩)
        go_round
        case rel => exact ⟨k + (Utf8.decode s k).2, by omega, by go_num, Lib.hid (H2.out.symm.trans H.out)⟩
        case measure => simp [intOf]; omega
      · have hok : okB (s.data.toList.drop k) = false := by simpa using hok
        have H2 := Lib.hid (right_stay hp hok)
        go_wp2_with (go_at_call 57; refine (width_no s k _ hs hp hok).mono ?_; rintro e w' ⟨rfl, rfl⟩)
        go_ret
        exact ⟨ret_int (H2.out.symm.trans H.out), rfl⟩
    · have H2 := Lib.hid (segsAt_end hp)
      go_wp2
      go_ret
      refine ⟨ret_int ?_, rfl⟩
      rw [← H.out, H2.out]
      rfl

set_option maxHeartbeats 1000000 in
theorem digit_any (x : Int) (w : World) (h0 : 0 ≤ x) (h1 : x < 16) : Calls Tryd.prog 58 #[.int .u8 x] w fun e w' => e = .returned (.int .u8 (hexd x.toNat).toNat) ∧ w' = w := by
  by_cases h : x < 10
  · have H := Lib.hid (hexd_lt (n := x.toNat) (by omega))
    go_enter Tryd.func58, Tryd.ntmps58
    go_wp2
    go_ret
    refine ⟨ret_int ?_, rfl⟩
    rw [H.out]
    omega
  · have H := Lib.hid (hexd_ge (n := x.toNat) (by omega) (by omega))
    go_enter Tryd.func58, Tryd.ntmps58
    go_wp2
    go_ret
    refine ⟨ret_int ?_, rfl⟩
    rw [H.out]
    omega
end Go.Proofs.YtponiboiijgllaaDoor
