/- RunesUnquotes answers true at every text. Conditions: none (longer texts than 400 bytes: the law looks at the examples alone). -/
import Derived.Test.YtgnmceefdbbhaaaWalkU
namespace Go.Proofs.Ytgnmceefdbbhaaa
open Go.RowKit

theorem both (s : ByteArray) (hs : s.size ≤ 1000) : ∃ o : Option (List UInt8), (∀ w, Calls Try.prog 19 #[.string s] w fun e w' => e = .returned (resV o) ∧ Below w.heap.size w w') ∧ (∀ w, Calls Try.prog 21 #[.string s] w fun e w' => e = .returned (resV o) ∧ Below w.heap.size w w') := by
  rcases good_or_bad s with hg | hb
  · exact ⟨_, fun w => unquote_good s w (by omega) hg, fun w => refunquote_good s w hs hg⟩
  · exact ⟨none, fun w => unquote_bad s w hs hb, fun w => refunquote_bad s w hs hb⟩

set_option maxHeartbeats 1000000 in
theorem unquotesLaw_any (s : ByteArray) (hw : s.size ≤ maxLen) (w : World) : Calls Try.prog 7 #[.string s] w fun e w' => e = .returned (.bool true) ∧ Below w.heap.size w w' := by
  unfold maxLen at hw
  by_cases hs : s.size ≤ 400
  · obtain ⟨o, h1, h2⟩ := both s (by omega)
    have H1 := Lib.hid h1
    have H2 := Lib.hid h2
    clear h1 h2
    obtain ⟨t, b, hr⟩ : ∃ t b, resV o = .tuple #[.string t, .bool b] := by
      cases o with
      | none => exact ⟨_, _, rfl⟩
      | some l => exact ⟨_, _, rfl⟩
    rw [hr] at H1 H2
    clear hr
    cases b
    all_goals
      go_enter Try.func7, Try.ntmps7
      go_wp2_with (go_at_call 10; refine (awake_any _).mono ?_)
      rintro e w1 ⟨rfl, b1⟩
      have s1 := b1.size
      go_wp2_with (go_at_call 19; refine (H1.out _).mono ?_)
      rintro e w2 ⟨rfl, b2⟩
      have s2 := b2.size
      go_wp2_with (go_at_call 21; refine (H2.out _).mono ?_)
      rintro e w3 ⟨rfl, b3⟩
      go_wp2
      go_ret
      exact ⟨by simp, (b1.trans (b2.mono (by omega))).trans (b3.mono (by omega))⟩
  · go_enter Try.func7, Try.ntmps7
    go_wp2_with (go_at_call 10; refine (awake_any _).mono ?_)
    rintro e w1 ⟨rfl, b1⟩
    have s1 := b1.size
    go_wp2_with (go_at_call 10; refine (awake_any _).mono ?_)
    rintro e w2 ⟨rfl, b2⟩
    go_wp2
    go_ret
    exact ⟨rfl, b1.trans (b2.mono (by omega))⟩
end Go.Proofs.Ytgnmceefdbbhaaa
