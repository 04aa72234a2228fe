/- What strings.TrimLeftFunc and strings.IndexFunc answer of blanks, and what lex.length, lex.Number, lex.Name answer of any text. Condition: the text has at most 1000000 bytes. -/
import Derived.Test.YtponiboiijgllaaDoorLWalkA
import Derived.Test.YtponiboiijgllaaDoorShelf
namespace Go.Proofs.YtponiboiijgllaaDoor
open Go.RowKit
set_option maxRecDepth 100000

theorem drewN_keeps {B : Nat} {a w : World} (h : Below B a w) (n : Nat) : Below B a (w.drewN n) := h.trans ⟨rfl, rfl, rfl, Nat.le_refl _, fun _ _ => rfl⟩
theorem enters_blank : ∀ args w, (callFunc 41 args).run Tryd.prog w = .ok (.enter 41 args) w := Go.Proofs.enters_of Tryd.func41 (by kernel_rfl) rfl
theorem blank_pred (w : World) : PredAtRunes Tryd.prog 41 #[] isBlZ w := fun W x _ _ => by
  unfold FnGives
  refine (blank_any x W).mono ?_
  rintro e w' ⟨rfl, rfl⟩
  exact ⟨rfl, 0, rfl⟩
theorem bytes_of {s : ByteArray} {l : List UInt8} (h : s.data.toList = l) : s = ⟨l.toArray⟩ := by rw [← h]
/-- strings.TrimLeftFunc at blanks. -/
theorem trim_any (s : ByteArray) (w : World) : Calls Tryd.prog 40 #[.string s, .func (.func 41) #[] #[]] w fun e w' => e = .returned (.string ⟨(s.data.toList.drop (sk s.data.toList)).toArray⟩) ∧ Below w.heap.size w w' := by
  refine (Tryd.strings_TrimLeftFunc_runes 41 #[] enters_blank isBlZ s w (blank_pred w)).mono ?_
  rintro e w' ⟨rfl, hb⟩
  rw [bytes_of (trim_blank s)]
  exact ⟨rfl, hb⟩
def nbZ (l : List UInt8) : Int := if nb l < l.length then (nb l : Int) else -1
theorem index_any0 (s : ByteArray) (w : World) : Calls Tryd.prog 66 #[.string s, .func (.func 41) #[] #[]] w fun e w' => e = .returned (.int .i64 (nbZ s.data.toList)) ∧ Below w.heap.size w w' := by
  refine (Tryd.strings_IndexFunc_runes 41 #[] enters_blank isBlZ s w (blank_pred w)).mono ?_
  rintro e w' ⟨rfl, hb⟩
  rw [index_blank s]
  unfold nbZ
  rw [len_data]
  exact ⟨rfl, hb⟩
theorem suffix_bytes (s : ByteArray) (i : Nat) : (s.extract i s.size).data.toList = s.data.toList.drop i := by
  simp only [ByteArray.data_extract, Array.toList_extract, List.extract_eq_take_drop]
  rw [List.take_of_length_le (by rw [List.length_drop, len_data]; omega)]
theorem prefix_bytes (s : ByteArray) (i : Nat) : (s.extract 0 i).data.toList = s.data.toList.take i := by
  simp only [ByteArray.data_extract, Array.toList_extract, List.extract_eq_take_drop]
  rw [List.drop_zero, Nat.sub_zero]
theorem index_from (s : ByteArray) (i : Nat) (w : World) : Calls Tryd.prog 66 #[.string (s.extract i s.size), .func (.func 41) #[] #[]] w fun e w' => e = .returned (.int .i64 (nbZ (s.data.toList.drop i))) ∧ Below w.heap.size w w' := by
  have := index_any0 (s.extract i s.size) w
  rw [suffix_bytes] at this
  exact this

set_option maxHeartbeats 1000000 in
theorem length_any (s : ByteArray) (w : World) (hs : s.size ≤ 1000000) :
    Calls Tryd.prog 42 #[.string s] w fun e w' => e = .returned (.int .i64 (wlen s.data.toList)) ∧ Below w.heap.size w w' := by
  have hl := tlen_le s.data.toList
  rw [len_data] at hl
  have hn := nb_le (s.data.toList.drop (tlen s.data.toList))
  rw [List.length_drop, len_data] at hn
  have HW : Hid (wlen s.data.toList = tlen s.data.toList + nb (s.data.toList.drop (tlen s.data.toList))) := rfl
  by_cases hb : nb (s.data.toList.drop (tlen s.data.toList)) < s.size - tlen s.data.toList
  · have hz : Hid (nbZ (s.data.toList.drop (tlen s.data.toList)) = (nb (s.data.toList.drop (tlen s.data.toList)) : Int)) := by
      unfold nbZ
      rw [if_pos (by rw [List.length_drop, len_data]; exact hb)]
      exact Lib.hid rfl
    go_enter Tryd.func42, Tryd.ntmps42
    go_wp2_with (go_at_call 65; refine (textLength_any s _ hs).mono ?_)
    rintro e w1 ⟨rfl, b1⟩
    have s1 := b1.size
    go_wp2_with (go_at_call 66; refine (index_from s _ _).mono ?_)
    rintro e w2 ⟨rfl, b2⟩
    rw [hz.out]
    go_wp2
    go_ret
    refine ⟨ret_int ?_, b1.trans (b2.mono s1)⟩
    rw [HW.out]
    omega
  · have hz : Hid (nbZ (s.data.toList.drop (tlen s.data.toList)) = -1) := by
      unfold nbZ
      rw [if_neg (by rw [List.length_drop, len_data]; exact hb)]
      exact Lib.hid rfl
    go_enter Tryd.func42, Tryd.ntmps42
    go_wp2_with (go_at_call 65; refine (textLength_any s _ hs).mono ?_)
    rintro e w1 ⟨rfl, b1⟩
    have s1 := b1.size
    go_wp2_with (go_at_call 66; refine (index_from s _ _).mono ?_)
    rintro e w2 ⟨rfl, b2⟩
    rw [hz.out]
    go_wp2
    go_ret
    refine ⟨ret_int ?_, b1.trans (b2.mono s1)⟩
    rw [HW.out]
    omega
end Go.Proofs.YtponiboiijgllaaDoor
