/- strings.Builder's WriteRune at a builder of the call's own: the bytes of any rune's form go in behind what it holds; whether a rune stands at a place of a text (runes.stands). Condition: the new length takes at most 2^47 bytes. -/
import Derived.Test.YtponiboiijgllaaDoorRWalkB
import Derived.Test.YtponiboiijgllaaDoorShelf
import Derived.Test.YtponiboiijgllaaDoorRWalkA
import Derived.Deep.QuietTactic
import Derived.BigQuiet
namespace Go.Proofs.YtponiboiijgllaaDoor
open Go.RowKit
set_option maxRecDepth 100000

set_option maxHeartbeats 4000000 in
set_option maxRecDepth 100000 in
theorem writeRune_any (B b : Nat) (bs : List Value) (r : Int) (hr0 : -2147483648 ≤ r) (hr1 : r ≤ 2147483647) (w : World) (h : Bld B b bs w) (hlen : bs.length + 4 ≤ 140737488355328) (hBw : B ≤ w.heap.size) :
    Calls Tryd.prog 75 #[.pointer (some ⟨b, 0, none⟩), .int .i32 r] w fun e w' => e = .returned (.tuple #[.int .i64 (Lib.runeCells r).length, .nilIface]) ∧ Wrote B b (bs ++ Lib.runeCells r) w w' := by
  have hk4 := Lib.runeCells_le r
  go_enter Tryd.func75, Tryd.ntmps75
  go_wp2_with (go_at_call 56; refine (check_any B b bs _ h).mono ?_)
  rintro e w1 ⟨rfl, h1, hb1, hk1⟩
  obtain ⟨hB, v, hbk, hown, hne⟩ := h1
  obtain ⟨ao, cap, rfl⟩ : ∃ ao cap, v = .slice ao bs.length cap := by
    rcases hown.2 with ⟨hv, h0⟩ | ⟨g, cap, cur, fz, hv, _⟩
    · exact ⟨none, 0, by rw [hv, h0]⟩
    · exact ⟨_, _, hv⟩
  have c0 : w1.cell? ⟨b, 0, none⟩ = some (.pointer (some ⟨b, 0, none⟩)) := by rw [Lib.cell_of_heap hbk]; rfl
  have c1 : w1.cell? ⟨b, 1, none⟩ = some (.slice ao bs.length cap) := by rw [Lib.cell_of_heap hbk]; rfl
  go_wp2_with (go_at_call 90; refine (Tryd.utf8_AppendRune_row B _ bs.length bs r hr0 hr1 _ hown hlen (by have := hb1.size; omega)).mono ?_)
  rintro e w2 ⟨v', rfl, hown', o, hgrow⟩
  have hlt : b < w1.heap.size := block_lt hbk
  have hb2 : w2.heap[b]? = some (.cells #[.pointer (some ⟨b, 0, none⟩), .slice ao bs.length cap] 68 (0, 0)) := by
    rw [hgrow.block b (by simp; omega) (fun e => hne e.symm), Lib.alloc_old w1 _ b hlt]
    exact hbk
  have d0 : w2.cell? ⟨b, 0, none⟩ = some (.pointer (some ⟨b, 0, none⟩)) := by rw [Lib.cell_of_heap hb2]; rfl
  have d1 : w2.cell? ⟨b, 1, none⟩ = some (.slice ao bs.length cap) := by rw [Lib.cell_of_heap hb2]; rfl
  have f1 : w2.frozen? ⟨b, 1, none⟩ = false := Lib.frozen_of_heap hb2 1
  obtain ⟨g, cap', rfl⟩ : ∃ g cap', v' = .slice (some ⟨g, 0, none⟩) (bs.length + (Lib.runeCells r).length) cap' := by
    rcases hown'.2 with ⟨_, h0⟩ | ⟨g, cap', cur, fz, hv, _⟩
    · omega
    · exact ⟨g, cap', hv⟩
  go_wp2
  go_ret2
  refine ⟨?_, ?_, ?_, ((hk1.alloc _).grown hgrow (Lib.ownsRowF_kind (hown.alloc _))).setCell ⟨b, 1, none⟩ rfl _⟩
  · have e : ((bs.length : Int) + ((Lib.runeCells r).length : Int) - (bs.length : Int)) = ((Lib.runeCells r).length : Int) := by omega
    simp [e]
  · exact Lib.BuilderAtF.put (T := 68) (e := 5) hB hb2 (bs' := bs ++ Lib.runeCells r) (by simpa using hown') (by decide)
  · exact ((hb1.alloc (by have := hb1.size; omega) _).grown hgrow (by have := hb1.size; simp; omega) (fun k hk => (hown.lt k hk).1)).setCell (p := ⟨b, 1, none⟩) hB _

theorem hasPrefix_iff (l p : List UInt8) : Lib.hasPrefix l p = true ↔ p <+: l := by
  unfold Lib.hasPrefix
  exact List.isPrefixOf_iff_prefix
theorem okB_fffd {l : List UInt8} (hl : l ≠ []) (h : (decL l).1 = 65533) : okB l = Lib.hasPrefix l [239, 191, 189] := by
  rw [Bool.eq_iff_iff, okB_iff hl, hasPrefix_iff]
  exact stands_fffd l hl h
theorem okB_other {l : List UInt8} (hl : l ≠ []) (h : (decL l).1 ≠ 65533) : okB l = true := (okB_iff hl).2 (stands_of_rune hl h)
theorem suffix_data (s : ByteArray) (i : Nat) : (s.extract i s.size).data.toList = s.data.toList.drop i := by
  simp [ByteArray.data_extract]
  rw [List.take_of_length_le (by simp)]

set_option maxHeartbeats 1000000 in
theorem stands_any (s : ByteArray) (i : Nat) (r : Int) (w : World) (hi : i < s.size) (_hs : s.size ≤ 1000000) (hr : r = ((Utf8.decode s i).1 : Nat)) :
    Calls Tryd.prog 73 #[.string s, .int .i64 i, .int .i32 r] w fun e w' => e = .returned (.bool (okB (s.data.toList.drop i))) ∧ w = w' := by
  have hne := drop_ne hi
  rw [decode_decL] at hr
  by_cases h : r = 65533
  · have H := Lib.hid (okB_fffd hne (by omega))
    have H2 := Lib.hid (suffix_data s i)
    subst h
    clear hr hne
    go_enter Tryd.func73, Tryd.ntmps73
    go_wp2_with (go_at_call 89; refine (Tryd.strings_HasPrefix _ _ _).mono ?_; rintro e w' ⟨rfl, rfl⟩)
    go_ret
    refine ⟨?_, rfl⟩
    rw [H.out, ← H2.out]
    have e : List.take (s.size - i) (s.extract i s.size).data.toList = (s.extract i s.size).data.toList := List.take_of_length_le (by simp)
    rw [e]
    rfl
  · have H := Lib.hid (okB_other hne (by omega))
    clear hr hne
    go_enter Tryd.func73, Tryd.ntmps73
    go_wp2
    go_ret
    rw [H.out]
    exact ⟨rfl, rfl⟩
end Go.Proofs.YtponiboiijgllaaDoor
