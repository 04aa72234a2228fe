/- What runes.Right answers of any text: the first place at which no rune stands. Condition: the text has at most 2000 bytes. -/
import Derived.Test.YtponiboiijgllaaDoorRWalkC
namespace Go.Proofs.YtponiboiijgllaaDoor
open Go.RowKit
set_option maxRecDepth 100000
set_option maxHeartbeats 4000000 in
set_option maxRecDepth 100000 in
theorem right_any (s : ByteArray) (w : World) (hs : s.size ≤ 1000000) :
    Calls Tryd.prog 82 #[.string s] w fun e w' => e = .returned (.int .i64 (rightL s.data.toList)) ∧ ∃ pos, w' = w.iter s pos := by
  go_enter Tryd.func82, Tryd.ntmps82
  go_wp2
  go_loopw [] (fun wr => ∃ pos : Nat, wr = w.iter s pos ∧ Hid (rightS (segsAt s pos) pos = rightL s.data.toList)) (fun wr => s.size - wr.iterPos w.heap.size)
  case atStart => exact ⟨0, rfl, rfl⟩
  case round =>
    obtain ⟨pos, rfl, H⟩ := hrel
    by_cases hp : pos < s.size
    · have hnx : ∀ ty, (Instr.next (.pointer (some ⟨w.heap.size, 0, none⟩)) true ty).run Tryd.prog (w.iter s pos) = _ := fun ty => run_next_any w s pos ty hp
      have hwd := (decode_width hp).1
      have H2 := Lib.hid (segsAt_step hp)
      go_wp2_with (go_at_call 73; refine (stands_any s pos _ _ hp hs rfl).mono ?_; rintro e w' ⟨rfl, rfl⟩)
      · have hb : (!okB (s.data.toList.drop pos)) = true := by assumption
        go_ret
        refine ⟨ret_int ?_, _, rfl⟩
        rw [← H.out, H2.out]
        have hb' : (sgAt s pos).ok = false := by rw [sgAt_ok]; simpa using hb
        simp [rightS, hb']
      · have hb : (!okB (s.data.toList.drop pos)) = false := by assumption
        go_roundw
        case rel =>
          refine ⟨_, rfl, ?_⟩
          have hb' : (sgAt s pos).ok = true := by rw [sgAt_ok]; simpa using hb
          have h3 : rightS (segsAt s pos) pos = rightS (segsAt s (pos + (Utf8.decode s pos).2)) (pos + (Utf8.decode s pos).2) := by
            rw [H2.out]
            simp [rightS, hb', sgAt_bytes s pos hp]
          exact h3.symm.trans H.out
        case measure =>
          simp
          omega
    · have hnx : ∀ ty, (Instr.next (.pointer (some ⟨w.heap.size, 0, none⟩)) true ty).run Tryd.prog (w.iter s pos) = _ := fun ty => run_next_end w s pos ty hp
      have H2 := Lib.hid (segsAt_end hp)
      go_wp2
      go_ret
      refine ⟨ret_int ?_, _, rfl⟩
      rw [← H.out, H2.out]
      rfl
end Go.Proofs.YtponiboiijgllaaDoor
