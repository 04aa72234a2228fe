/- The document's examples of layer 3 hold: awake answers true. Conditions: the library's own variable is as a start leaves it. -/
import Derived.Test.YtponiboiijgllaaDoorLWalkQ
namespace Go.Proofs.YtponiboiijgllaaDoor
open Go.RowKit
set_option maxRecDepth 100000

theorem words_step {c : UInt8} {t : List UInt8} {n : Nat} {b : Bx} (hc : isBl c = false) (h35 : c.toNat ≠ 35) (hn : wlen (c :: t) = n + 1) (hb : wordL ((c :: t).take (n + 1)) = some b) : wordsL (c :: t) = (wordsL (t.drop n)).map (b :: ·) := by
  rw [wordsL_cons hc, if_neg h35, hn, hb]
  rfl
theorem word_a : wordL [97] = some (.nam ⟨#[97]⟩) := by
  rw [wordL_plain (by decide), show numL [97] = none by decide, show nameL [97] = true by decide]
  rfl
theorem word_7 : wordL [45, 55] = some (.num (-7)) := by
  rw [wordL_plain (by decide), show numL [45, 55] = some (-7) by decide]
theorem quote_bc : quoteL [98, 32, 99] = [34, 98, 32, 99, 34] := by
  unfold quoteL bodyL
  rw [segs_cons (by simp)]
  rw [show List.drop (decL [98, 32, 99]).2 ([98, 32, 99] : List UInt8) = [32, 99] from rfl]
  rw [segs_cons (by simp)]
  rw [show List.drop (decL [32, 99]).2 ([32, 99] : List UInt8) = [99] from rfl]
  rw [segs_cons (by simp)]
  rw [show List.drop (decL [99]).2 ([99] : List UInt8) = [] from rfl, segs_nil]
  rfl
theorem word_bc : wordL [34, 98, 32, 99, 34] = some (.txt ⟨#[98, 32, 99]⟩) := by
  have := unquote_quote [98, 32, 99]
  rw [quote_bc] at this
  rw [wordL_quote, this]
  rfl
def exWords : List Bx := [.nam ⟨#[97]⟩, .txt ⟨#[98, 32, 99]⟩, .num (-7)]
theorem words_ex : wordsL [97, 32, 34, 98, 32, 99, 34, 32, 45, 55, 32, 35, 32, 100] = some exWords := by
  have e1 : wordsL [97, 32, 34, 98, 32, 99, 34, 32, 45, 55, 32, 35, 32, 100] = (wordsL [32, 34, 98, 32, 99, 34, 32, 45, 55, 32, 35, 32, 100]).map (Bx.nam ⟨#[97]⟩ :: ·) :=
    words_step (c := 97) (t := [32, 34, 98, 32, 99, 34, 32, 45, 55, 32, 35, 32, 100]) (n := 0) (by decide) (by decide) (by decide) word_a
  have e2 : wordsL [34, 98, 32, 99, 34, 32, 45, 55, 32, 35, 32, 100] = (wordsL [32, 45, 55, 32, 35, 32, 100]).map (Bx.txt ⟨#[98, 32, 99]⟩ :: ·) :=
    words_step (c := 34) (t := [98, 32, 99, 34, 32, 45, 55, 32, 35, 32, 100]) (n := 4) (by decide) (by decide) (by decide) word_bc
  have e3 : wordsL [45, 55, 32, 35, 32, 100] = (wordsL [32, 35, 32, 100]).map (Bx.num (-7) :: ·) :=
    words_step (c := 45) (t := [55, 32, 35, 32, 100]) (n := 1) (by decide) (by decide) (by decide) word_7
  have e4 : wordsL [35, 32, 100] = some [] := by rw [wordsL_cons (by decide), if_pos (by decide)]
  rw [e1, wordsL_blank (by decide), e2, wordsL_blank (by decide), e3, wordsL_blank (by decide), e4]
  rfl
theorem split_ex : splitNL [97, 32, 34, 98, 32, 99, 34, 32, 45, 55, 32, 35, 32, 100] = [[97, 32, 34, 98, 32, 99, 34, 32, 45, 55, 32, 35, 32, 100]] := by decide
theorem words_07 : wordsL [48, 55] = none := by
  rw [wordsL_cons (by decide), if_neg (by decide), show wlen [48, 55] = 2 by decide]
  have e : wordL (List.take 2 [48, 55]) = none := by
    show wordL [48, 55] = none
    rw [wordL_plain (by decide), show numL [48, 55] = none by decide, show nameL [48, 55] = false by decide]
    rfl
  rw [e]
theorem split_07 : splitNL [48, 55] = [[48, 55]] := by decide

def exText : ByteArray := ⟨#[97, 32, 34, 98, 32, 99, 34, 32, 45, 55, 32, 35, 32, 100]⟩
theorem lines_ex (w : World) (h : LibOk w) : Calls Tryd.prog 8 #[.string ⟨#[97, 32, 34, 98, 32, 99, 34, 32, 45, 55, 32, 35, 32, 100]⟩] w fun e w' => (∃ g gw c cw, e = .returned (.tuple #[.slice (some ⟨g, 0, none⟩) 1 c, .int .i64 0, .int .i64 0]) ∧ g < w'.heap.size ∧ gw < w'.heap.size ∧ w'.cell? ⟨g, 1, none⟩ = some (.slice (some ⟨gw, 0, none⟩) 3 cw) ∧ w'.cell? ⟨gw, 1, none⟩ = some (.iface 82 (.string ⟨#[98, 32, 99]⟩))) ∧ Below w.heap.size w w' := by
  have hs : splitNL (⟨#[97, 32, 34, 98, 32, 99, 34, 32, 45, 55, 32, 35, 32, 100]⟩ : ByteArray).data.toList = [[97, 32, 34, 98, 32, 99, 34, 32, 45, 55, 32, 35, 32, 100]] := split_ex
  have hb : badAt 1 (splitNL (⟨#[97, 32, 34, 98, 32, 99, 34, 32, 45, 55, 32, 35, 32, 100]⟩ : ByteArray).data.toList) = 0 := by rw [hs, badAt_some words_ex]; rfl
  have hg : goodL 1 (splitNL (⟨#[97, 32, 34, 98, 32, 99, 34, 32, 45, 55, 32, 35, 32, 100]⟩ : ByteArray).data.toList) = [(1, exWords)] := by rw [hs, goodL_some words_ex (by simp [exWords])]; rfl
  refine (lines_good _ w (by decide) h hb).mono ?_
  rintro e w' ⟨v, rfl, hL, hbw⟩
  rw [hg] at hL
  refine ⟨?_, hbw⟩
  rcases hL with ⟨h0, _⟩ | ⟨g, c, rfl, hgs, hc⟩
  · cases h0
  · obtain ⟨_, x, h2, h3⟩ := hc 0 (by decide)
    rcases h3 with ⟨h0, _⟩ | ⟨gw, cw, rfl, hgw, hcw⟩
    · cases h0
    · exact ⟨g, gw, c, cw, rfl, hgs, hgw, h2, hcw 1 (by decide)⟩
theorem lines_07 (w : World) (h : LibOk w) : Calls Tryd.prog 8 #[.string ⟨#[48, 55]⟩] w fun e w' => e = .returned (.tuple #[.slice none 0 0, .int .i64 1, .int .i64 7]) ∧ Below w.heap.size w w' := by
  have hs : splitNL (⟨#[48, 55]⟩ : ByteArray).data.toList = [[48, 55]] := split_07
  exact lines_bad _ w (by decide) h 1 (by decide) (by rw [hs, badAt_none words_07])
theorem kind_ex (s : ByteArray) (w : World) : Calls Tryd.prog 20 #[.agg #[.iface 82 (.string s)]] w fun e w' => e = .returned (.int .i64 3) ∧ Below w.heap.size w w' := kind_any (.txt s) w

set_option maxHeartbeats 2000000 in
theorem lexAwake_any (w : World) (h : LibOk w) : Calls Tryd.prog 7 #[] w fun e w' => e = .returned (.bool true) ∧ Below w.heap.size w w' := by
  go_enter Tryd.func7, Tryd.ntmps7
  go_wp2_with fail
  refine (lines_ex w h).mono ?_
  rintro e w1 ⟨⟨g, gw, c, cw, rfl, hg, hgw, c1, c2⟩, b1⟩
  have s1 := b1.size
  go_wp2_with fail
  refine (lines_07 w1 (h.next b1)).mono ?_
  rintro e w2 ⟨rfl, b2⟩
  have s2 := b2.size
  have d1 := keep b2 c1 hg
  have d2 := keep b2 c2 hgw
  clear c1 c2
  go_wp2_with fail
  refine (kind_ex _ _).mono ?_
  rintro e w3 ⟨rfl, b3⟩
  go_wp2
  go_ret
  exact ⟨rfl, (b1.trans (b2.mono s1)).trans (b3.mono (by omega))⟩
end Go.Proofs.YtponiboiijgllaaDoor
