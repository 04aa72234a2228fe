/- What lex.blank and lex.textLength answer of any rune, any text. Condition: the text has at most 1000000 bytes. -/
import Derived.Test.YtponiboiijgllaaDoorLMathB
import Derived.Test.YtponiboiijgllaaDoorRWalkB
import Derived.WalkSmall
namespace Go.Proofs.YtponiboiijgllaaDoor
open Go.RowKit
set_option maxRecDepth 100000

set_option maxHeartbeats 1000000 in
theorem blank_any (r : Nat) (w : World) : Calls Tryd.prog 41 #[.int .i32 r] w fun e w' => e = .returned (.bool (isBlZ r)) ∧ w = w' := by
  go_enter Tryd.func41, Tryd.ntmps41
  go_wp2_with (go_at_call 26; refine (class_any _ _).mono ?_; rintro e w' ⟨rfl, rfl⟩)
  go_ret
  exact ⟨ret_bool rfl, rfl⟩

theorem below_iter0 (w : World) (s : ByteArray) (pos : Nat) : Below w.heap.size w (w.iter s pos) := (Below.refl _ w).alloc (Nat.le_refl _) _

theorem first_quote {s : ByteArray} (hp : 0 < s.size) (h : (Utf8.decode s 0).1 = 34) : (Utf8.decode s 0).2 = 1 ∧ endZ false (s.data.toList.drop 1) 1 s.size = tlen s.data.toList := by
  have hl := drop_at hp
  rw [List.drop_zero] at hl
  have hc : (s[0]'hp).toNat = 34 := by
    by_cases hc : (s[0]'hp).toNat < 128
    · rw [decode_low hp hc] at h; exact h
    · have := (decode_high hp (by omega)).1; omega
  refine ⟨by rw [decode_low hp (by omega)], ?_⟩
  rw [hl, tlen_endZ hc]
  rw [← hl, len_data]
theorem first_other {s : ByteArray} (hp : 0 < s.size) (h : (Utf8.decode s 0).1 ≠ 34) : tlen s.data.toList = 0 := by
  have hl := drop_at hp
  rw [List.drop_zero] at hl
  have hc : (s[0]'hp).toNat ≠ 34 := by
    by_cases hc : (s[0]'hp).toNat < 128
    · rw [decode_low hp hc] at h; exact h
    · omega
  rw [hl]
  simp [tlen, hc]
/-- One rune further: held, a \, a ", another one. -/
theorem end_held {s : ByteArray} {pos : Nat} (hp : pos < s.size) : endZ true (s.data.toList.drop pos) pos s.size = endZ false (s.data.toList.drop (pos + (Utf8.decode s pos).2)) (pos + (Utf8.decode s pos).2) s.size := by
  by_cases hc : (s[pos]'hp).toNat < 128
  · rw [decode_low hp hc, drop_at hp, endZ_held]
  · exact endZ_high hp (by omega)
theorem end_back {s : ByteArray} {pos : Nat} (hp : pos < s.size) (h : (Utf8.decode s pos).1 = 92) : endZ false (s.data.toList.drop pos) pos s.size = endZ true (s.data.toList.drop (pos + (Utf8.decode s pos).2)) (pos + (Utf8.decode s pos).2) s.size := by
  by_cases hc : (s[pos]'hp).toNat < 128
  · rw [decode_low hp hc] at h ⊢
    rw [drop_at hp, endZ_back _ h]
  · have := (decode_high hp (by omega)).1
    omega
theorem end_quote {s : ByteArray} {pos : Nat} (hp : pos < s.size) (h : (Utf8.decode s pos).1 = 34) : endZ false (s.data.toList.drop pos) pos s.size = pos + 1 := by
  by_cases hc : (s[pos]'hp).toNat < 128
  · rw [decode_low hp hc] at h
    rw [drop_at hp, endZ_quote _ h]
  · have := (decode_high hp (by omega)).1
    omega
theorem end_other {s : ByteArray} {pos : Nat} (hp : pos < s.size) (h34 : (Utf8.decode s pos).1 ≠ 34) (h92 : (Utf8.decode s pos).1 ≠ 92) : endZ false (s.data.toList.drop pos) pos s.size = endZ false (s.data.toList.drop (pos + (Utf8.decode s pos).2)) (pos + (Utf8.decode s pos).2) s.size := by
  by_cases hc : (s[pos]'hp).toNat < 128
  · rw [decode_low hp hc] at h34 h92 ⊢
    rw [drop_at hp, endZ_other _ h34 h92]
  · exact endZ_high hp (by omega)
theorem end_none {s : ByteArray} {h : Bool} {pos : Nat} (hp : ¬ pos < s.size) : endZ h (s.data.toList.drop pos) pos s.size = s.size := by
  rw [List.drop_eq_nil_of_le (by rw [len_data]; omega), endZ_end]

set_option maxHeartbeats 4000000 in
set_option maxRecDepth 100000 in
theorem textLength_any (s : ByteArray) (w : World) (hs : s.size ≤ 1000000) :
    Calls Tryd.prog 65 #[.string s] w fun e w' => e = .returned (.int .i64 (tlen s.data.toList)) ∧ Below w.heap.size w w' := by
  go_enter Tryd.func65, Tryd.ntmps65
  go_wp2
  go_loopw [3] (fun hv wr => ∃ (pos : Nat) (h : Bool), wr = w.iter s pos ∧ hv = .bool h ∧ ((pos = 0 ∧ h = false) ∨ (1 ≤ pos ∧ Hid (endZ h (s.data.toList.drop pos) pos s.size = tlen s.data.toList)))) (fun _ wr => s.size - wr.iterPos w.heap.size)
  case atStart => exact ⟨0, false, rfl, rfl, .inl ⟨rfl, rfl⟩⟩
  case round =>
    obtain ⟨pos, h, rfl, rfl, hor⟩ := hrel
    by_cases hp : pos < s.size
    · have hnx : ∀ ty, (Instr.next (.pointer (some ⟨w.heap.size, 0, none⟩)) true ty).run Tryd.prog (w.iter s pos) = _ := fun ty => run_next_any w s pos ty hp
      have hwd := (decode_width hp).1
      rcases hor with ⟨rfl, rfl⟩ | ⟨h1, H⟩
      · by_cases hq : (Utf8.decode s 0).1 = 34
        · have tq : ((((Utf8.decode s 0).1 : Nat) : Int) != 34) = false := by simp; omega
          have H2 := Lib.hid (first_quote hp hq)
          clear hq
          go_wp2
          go_roundw
          case rel =>
            have h2 := H2.out
            refine ⟨_, false, rfl, rfl, .inr ⟨by omega, Lib.hid ?_⟩⟩
            rw [h2.1]
            exact h2.2
          case measure => simp; omega
        · have tq : ((((Utf8.decode s 0).1 : Nat) : Int) != 34) = true := by simp; omega
          have H2 := Lib.hid (first_other hp hq)
          clear hq
          go_wp2
          go_ret
          exact ⟨ret_int (by rw [H2.out]; rfl), below_iter0 _ _ _⟩
      · have hne : ((pos : Int) == 0) = false := by simp; omega
        cases h
        · by_cases h92 : (Utf8.decode s pos).1 = 92
          · have t92 : ((((Utf8.decode s pos).1 : Nat) : Int) == 92) = true := by simp; omega
            have H2 := Lib.hid (end_back hp h92)
            clear h92
            go_wp2
            go_roundw
            case rel => exact ⟨_, true, rfl, rfl, .inr ⟨by omega, Lib.hid (H2.out.symm.trans H.out)⟩⟩
            case measure => simp; omega
          · have t92 : ((((Utf8.decode s pos).1 : Nat) : Int) == 92) = false := by simp; omega
            by_cases h34 : (Utf8.decode s pos).1 = 34
            · have t34 : ((((Utf8.decode s pos).1 : Nat) : Int) == 34) = true := by simp; omega
              have H2 := Lib.hid (end_quote hp h34)
              clear h92 h34
              go_wp2
              go_ret
              refine ⟨ret_int ?_, below_iter0 _ _ _⟩
              rw [← H.out, H2.out]
              rfl
            · have t34 : ((((Utf8.decode s pos).1 : Nat) : Int) == 34) = false := by simp; omega
              have H2 := Lib.hid (end_other hp h34 h92)
              clear h92 h34
              go_wp2
              go_roundw
              case rel => exact ⟨_, false, rfl, rfl, .inr ⟨by omega, Lib.hid (H2.out.symm.trans H.out)⟩⟩
              case measure => simp; omega
        · have H2 := Lib.hid (end_held hp)
          go_wp2
          go_roundw
          case rel => exact ⟨_, false, rfl, rfl, .inr ⟨by omega, Lib.hid (H2.out.symm.trans H.out)⟩⟩
          case measure => simp; omega
    · have hnx : ∀ ty, (Instr.next (.pointer (some ⟨w.heap.size, 0, none⟩)) true ty).run Tryd.prog (w.iter s pos) = _ := fun ty => run_next_end w s pos ty hp
      have H2 : Hid (tlen s.data.toList = s.size) := by
        rcases hor with ⟨rfl, rfl⟩ | ⟨h1, H⟩
        · have : s.data.toList = [] := List.eq_nil_of_length_eq_zero (by rw [len_data]; omega)
          have hz : s.size = 0 := by omega
          exact Lib.hid (by rw [this, hz]; rfl)
        · exact Lib.hid (by rw [← H.out, end_none hp])
      clear hor
      go_wp2
      go_ret
      exact ⟨ret_int (by rw [H2.out]), below_iter0 _ _ _⟩
end Go.Proofs.YtponiboiijgllaaDoor
