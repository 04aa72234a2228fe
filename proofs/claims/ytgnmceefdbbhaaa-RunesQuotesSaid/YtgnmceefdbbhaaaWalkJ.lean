/- RunesQuotes answers true at every text, and changes nothing that was there: at most 400 bytes: the code's Quote is the reference's; longer ones: the law looks at the examples alone. -/
import Derived.Test.YtgnmceefdbbhaaaWalkI
namespace Go.Proofs.Ytgnmceefdbbhaaa
open Go.RowKit

set_option maxHeartbeats 1000000 in
theorem quotesLaw_any (s : ByteArray) (hw : s.size ≤ maxLen) (w : World) : Calls Try.prog 6 #[.string s] w fun e w' => e = .returned (.bool true) ∧ Below w.heap.size w w' := by
  unfold maxLen at hw
  by_cases hs : s.size ≤ 400
  · go_enter Try.func6, Try.ntmps6
    go_wp2_with (go_at_call 10; refine (awake_any _).mono ?_)
    rintro e w1 ⟨rfl, b1⟩
    have s1 := b1.size
    go_wp2_with (go_at_call 18; refine (quote_any s _ (by omega)).mono ?_)
    rintro e w2 ⟨rfl, b2⟩
    have s2 := b2.size
    go_wp2_with (go_at_call 20; refine (refquote_any s _ (by omega)).mono ?_)
    rintro e w3 ⟨rfl, b3⟩
    go_wp2
    go_ret
    exact ⟨by simp, (b1.trans (b2.mono (by omega))).trans (b3.mono (by omega))⟩
  · go_enter Try.func6, Try.ntmps6
    go_wp2_with (go_at_call 10; refine (awake_any _).mono ?_)
    rintro e w1 ⟨rfl, b1⟩
    have s1 := b1.size
    go_wp2_with (go_at_call 10; refine (awake_any _).mono ?_)
    rintro e w2 ⟨rfl, b2⟩
    go_wp2
    go_ret
    exact ⟨rfl, b1.trans (b2.mono (by omega))⟩
end Go.Proofs.Ytgnmceefdbbhaaa
