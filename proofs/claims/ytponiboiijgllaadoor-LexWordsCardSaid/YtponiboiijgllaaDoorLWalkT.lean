/- LexWords answers true at every text. Conditions: the library's own variable is as a start leaves it. -/
import Derived.Test.YtponiboiijgllaaDoorLWalkR
namespace Go.Proofs.YtponiboiijgllaaDoor
open Go.RowKit
set_option maxRecDepth 100000

set_option maxHeartbeats 2000000 in
theorem wordsLaw_any (s : ByteArray) (hw : s.size ≤ maxLen) (w : World) (h : LibOk w) : Calls Tryd.prog 4 #[.string s] w fun e w' => e = .returned (.bool true) ∧ Below w.heap.size w w' := by
  unfold maxLen at hw
  by_cases hs : s.size ≤ 300
  · have hs' : (s.size : Int) ≤ 300 := by omega
    obtain ⟨b, hb⟩ : ∃ b, b = nameL s.data.toList := ⟨_, rfl⟩
    have n1 := fun W => lexName_any s W (by omega)
    have n2 := fun W => refName_any s W (by omega)
    rw [← hb] at n1 n2
    clear hb
    have hnum : ∃ (n : Int) (ok : Bool), numV (numL s.data.toList) = .tuple #[.int .i64 n, .bool ok] := by
      cases numL s.data.toList with
      | some n => exact ⟨n, true, rfl⟩
      | none => exact ⟨0, false, rfl⟩
    obtain ⟨n, ok, hn⟩ := hnum
    have m1 := fun W => lexNumber_any s W (by omega)
    have m2 := fun W => refNumber_any s W (by omega)
    rw [hn] at m1 m2
    clear hn
    go_enter Tryd.func4, Tryd.ntmps4
    go_wp2_with fail
    refine (lexAwake_any w h).mono ?_
    rintro e w1 ⟨rfl, b1⟩
    have s1 := b1.size
    go_wp2_with fail
    refine (m1 _).mono ?_
    rintro e w2 ⟨rfl, b2⟩
    have s2 := b2.size
    go_wp2_with fail
    refine (m2 _).mono ?_
    rintro e w3 ⟨rfl, rfl⟩
    go_wp2_with fail
    refine (n1 _).mono ?_
    rintro e w4 ⟨rfl, b4⟩
    go_wp2_with fail
    refine (n2 _).mono ?_
    rintro e w5 ⟨rfl, rfl⟩
    go_wp2
    go_ret
    exact ⟨ret_bool (by simp), (b1.trans (b2.mono s1)).trans (b4.mono (by omega))⟩
  · have hs' : (300 : Int) < (s.size : Int) := by omega
    go_enter Tryd.func4, Tryd.ntmps4
    go_wp2_with fail
    refine (lexAwake_any w h).mono ?_
    rintro e w1 ⟨rfl, b1⟩
    have s1 := b1.size
    go_wp2_with fail
    refine (lexAwake_any w1 (h.next b1)).mono ?_
    rintro e w2 ⟨rfl, b2⟩
    go_wp2
    go_ret
    exact ⟨rfl, b1.trans (b2.mono s1)⟩
end Go.Proofs.YtponiboiijgllaaDoor
