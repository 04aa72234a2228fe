/- What lex.Name answers of any text, and the reference's blank, Number, Name. Condition: the text has at most 1000000 bytes. -/
import Derived.Test.YtponiboiijgllaaDoorLWalkC
namespace Go.Proofs.YtponiboiijgllaaDoor
open Go.RowKit
set_option maxRecDepth 100000

theorem class_letter {s : ByteArray} {pos : Nat} (hp : pos < s.size) : (classZ ((Utf8.decode s pos).1 : Nat) = 1) ↔ isLet (s[pos]'hp) = true := by
  have hz : ∀ r : Nat, classZ (r : Nat) = 1 ↔ 97 ≤ r ∧ r ≤ 122 := by
    intro r
    unfold classZ
    repeat' split
    all_goals omega
  rw [hz]
  simp only [isLet, decide_eq_true_iff]
  by_cases hc : (s[pos]'hp).toNat < 128
  · rw [decode_low hp hc]
  · have := (decode_high hp (by omega)).1
    omega
theorem name_step {s : ByteArray} {pos : Nat} (hp : pos < s.size) : nameFrom pos (s.data.toList.drop pos) = (okAt pos (s[pos]'hp) && nameFrom (pos + 1) (s.data.toList.drop (pos + 1))) := by
  rw [drop_at hp, nameFrom_cons]
theorem let_low {s : ByteArray} {pos : Nat} (hp : pos < s.size) (h : isLet (s[pos]'hp) = true) : (Utf8.decode s pos).2 = 1 := by
  simp [isLet] at h
  rw [decode_low hp (by omega)]

set_option maxHeartbeats 2000000 in
theorem lexName_any (s : ByteArray) (w : World) (hs : s.size ≤ 1000000) :
    Calls Tryd.prog 13 #[.string s] w fun e w' => e = .returned (.bool (nameL s.data.toList)) ∧ Below w.heap.size w w' := by
  have HL : Hid (nameL s.data.toList = (decide (1 ≤ s.size ∧ s.size ≤ 20) && nameFrom 0 s.data.toList)) := Lib.hid (by unfold nameL; rw [len_data])
  by_cases h0 : 0 < s.size
  · have t2 := not_empty h0
    by_cases h20 : s.size ≤ 20
    · have t4 : (s.size : Int) ≤ 20 := by omega
      have HL2 : Hid (nameL s.data.toList = nameFrom 0 s.data.toList) := Lib.hid (by rw [HL.out, decide_eq_true (⟨h0, h20⟩ : 1 ≤ s.size ∧ s.size ≤ 20), Bool.true_and])
      go_enter Tryd.func13, Tryd.ntmps13
      go_wp2
      go_loopw [] (fun wr => ∃ pos : Nat, wr = w.iter s pos ∧ pos ≤ s.size ∧ Hid (nameFrom pos (s.data.toList.drop pos) = nameFrom 0 s.data.toList)) (fun wr => s.size - wr.iterPos w.heap.size)
      case atStart => exact ⟨0, rfl, by omega, rfl⟩
      case round =>
        obtain ⟨pos, rfl, hps, H⟩ := hrel
        by_cases hp : pos < s.size
        · have hnx : ∀ ty, (Instr.next (.pointer (some ⟨w.heap.size, 0, none⟩)) true ty).run Tryd.prog (w.iter s pos) = _ := fun ty => run_next_any w s pos ty hp
          have HS := Lib.hid (name_step hp)
          by_cases hl : isLet (s[pos]'hp) = true
          · have hw := let_low hp hl
            have hcl := (class_letter hp).2 hl
            have tc : (classZ ((Utf8.decode s pos).1 : Nat) != 1) = false := by rw [hcl]; rfl
            have HN : Hid (nameFrom (pos + (Utf8.decode s pos).2) (s.data.toList.drop (pos + (Utf8.decode s pos).2)) = nameFrom 0 s.data.toList) := Lib.hid (by
              rw [hw, ← H.out, HS.out]
              unfold okAt
              rw [hl]
              simp)
            have hw1 : 1 ≤ (Utf8.decode s pos).2 := by omega
            have hw2 : (Utf8.decode s pos).2 ≤ 1 := by omega
            clear hcl hl hw
            go_wp2_with (go_at_call 26; refine (class_any _ _).mono ?_; rintro e w' ⟨rfl, rfl⟩)
            go_roundw
            case rel => exact ⟨_, rfl, by omega, HN⟩
            case measure => simp; omega
          · have hcl : classZ ((Utf8.decode s pos).1 : Nat) ≠ 1 := fun k => hl ((class_letter hp).1 k)
            have tc : (classZ ((Utf8.decode s pos).1 : Nat) != 1) = true := by simpa using hcl
            have hlf : isLet (s[pos]'hp) = false := by simpa using hl
            by_cases hd : isDig (s[pos]'hp) = true
            · have hcd := (dig_class hp).2 hd
              have td : (classZ ((Utf8.decode s pos).1 : Nat) != 2) = false := by rw [hcd]; rfl
              have hw := (dig_low hp hd).1
              by_cases hz : pos = 0
              · have tz : ((pos : Int) == 0) = true := by simp; omega
                have HN : Hid (nameFrom 0 s.data.toList = false) := Lib.hid (by
                  rw [← H.out, HS.out]
                  unfold okAt
                  rw [hlf, decide_eq_false (by omega : ¬ 0 < pos)]
                  simp)
                clear hcl hlf hl hd hcd hw hz
                go_wp2_with (go_at_call 26; refine (class_any _ _).mono ?_; rintro e w' ⟨rfl, rfl⟩)
                go_ret
                exact ⟨ret_bool (by rw [HL2.out, HN.out]), below_iter0 _ _ _⟩
              · have tz : ((pos : Int) == 0) = false := by simp; omega
                have hwd : (Utf8.decode s pos).2 = 1 := by rw [hw]
                have HN : Hid (nameFrom (pos + (Utf8.decode s pos).2) (s.data.toList.drop (pos + (Utf8.decode s pos).2)) = nameFrom 0 s.data.toList) := Lib.hid (by
                  rw [hwd, ← H.out, HS.out]
                  unfold okAt
                  rw [hlf, hd, decide_eq_true (by omega : 0 < pos)]
                  simp)
                have hw1 : 1 ≤ (Utf8.decode s pos).2 := by omega
                have hw2 : (Utf8.decode s pos).2 ≤ 1 := by omega
                clear hcl hlf hl hd hcd hw hz hwd
                go_wp2_with (go_at_call 26; refine (class_any _ _).mono ?_; rintro e w' ⟨rfl, rfl⟩)
                go_roundw
                case rel => exact ⟨_, rfl, by omega, HN⟩
                case measure => simp; omega
            · have hcd : classZ ((Utf8.decode s pos).1 : Nat) ≠ 2 := fun k => hd ((dig_class hp).1 k)
              have td : (classZ ((Utf8.decode s pos).1 : Nat) != 2) = true := by simpa using hcd
              have hdf : isDig (s[pos]'hp) = false := by simpa using hd
              have HN : Hid (nameFrom 0 s.data.toList = false) := Lib.hid (by
                rw [← H.out, HS.out]
                unfold okAt
                rw [hlf, hdf]
                simp)
              clear hcl hlf hl hd hcd hdf
              go_wp2_with (go_at_call 26; refine (class_any _ _).mono ?_; rintro e w' ⟨rfl, rfl⟩)
              go_ret
              exact ⟨ret_bool (by rw [HL2.out, HN.out]), below_iter0 _ _ _⟩
        · have hnx : ∀ ty, (Instr.next (.pointer (some ⟨w.heap.size, 0, none⟩)) true ty).run Tryd.prog (w.iter s pos) = _ := fun ty => run_next_end w s pos ty hp
          have HN : Hid (nameFrom 0 s.data.toList = true) := Lib.hid (by rw [← H.out, List.drop_eq_nil_of_le (by rw [len_data]; omega)]; rfl)
          go_wp2
          go_ret
          exact ⟨ret_bool (by rw [HL2.out, HN.out]), below_iter0 _ _ _⟩
    · have t4 : (20 : Int) < (s.size : Int) := by omega
      have HN : Hid (nameL s.data.toList = false) := Lib.hid (by rw [HL.out, decide_eq_false (fun k : 1 ≤ s.size ∧ s.size ≤ 20 => h20 k.2), Bool.false_and])
      go_enter Tryd.func13, Tryd.ntmps13
      go_wp2
      go_ret
      exact ⟨ret_bool (by rw [HN.out]), Below.refl _ _⟩
  · have hl : s.data.toList = [] := List.eq_nil_of_length_eq_zero (by rw [len_data]; omega)
    have t1 : s.toList = [] := by rw [Lib.toList_data, hl]
    have t2 : s.toList.isEmpty = true := by rw [t1]; rfl
    have HN : Hid (nameL s.data.toList = false) := Lib.hid (by rw [hl, nameL_nil])
    clear hl
    go_enter Tryd.func13, Tryd.ntmps13
    go_wp2
    go_ret
    exact ⟨ret_bool (by rw [HN.out]), Below.refl _ _⟩

set_option maxHeartbeats 1000000 in
theorem refblank_any (c : UInt8) (w : World) : Calls Tryd.prog 44 #[.int .u8 c.toNat] w fun e w' => e = .returned (.bool (isBl c)) ∧ w = w' := by
  go_enter Tryd.func44, Tryd.ntmps44
  go_wp2
  all_goals
    go_ret
    refine ⟨ret_bool ?_, rfl⟩
    rw [Bool.eq_iff_iff, isBl_iff]
    simp
    omega
end Go.Proofs.YtponiboiijgllaaDoor
