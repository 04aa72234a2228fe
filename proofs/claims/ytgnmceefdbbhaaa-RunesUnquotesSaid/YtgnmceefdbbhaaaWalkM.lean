/- Same answers 1 of two rows that hold the same runes; RunesPlays answers true at every text. Conditions: none (longer texts than 400 bytes: the law looks at the examples alone). -/
import Derived.Test.YtgnmceefdbbhaaaWalkL
namespace Go.Proofs.Ytgnmceefdbbhaaa
open Go.RowKit

theorem OwnsI.form {w : World} {base : Nat} {v : Value} {l : List Int} (h : OwnsI w base v l) :
    (l = [] ∧ ∃ a c, v = .slice a 0 c) ∨ ∃ g cap, v = .slice (some ⟨g, 0, none⟩) l.length cap ∧ ∀ k (hk : k < l.length), w.cell? ⟨g, k, none⟩ = some (.int .i32 (l[k]'hk)) := by
  rcases h.2 with ⟨rfl, h0⟩ | ⟨g, cap, cur, rfl, b, c, d⟩
  · exact .inl ⟨List.eq_nil_of_length_eq_zero h0, none, 0, rfl⟩
  · refine .inr ⟨g, cap, rfl, fun k hk => ?_⟩
    have := World.ownsRow.cells h (g := g) rfl k (.int .i32 (l[k]'hk)) (by simp [runeRow, hk])
    rw [show (⟨g, 0, none⟩ : Addr).add k = ⟨g, k, none⟩ by simp [Addr.add]; rintro rfl; rfl] at this
    exact this

set_option maxHeartbeats 1000000 in
theorem same_nil (a1 a2 : Option Addr) (c1 c2 : Nat) (w : World) : Calls Try.prog 13 #[.slice a1 0 c1, .slice a2 0 c2] w fun e w' => e = .returned (.int .i64 1) ∧ Below w.heap.size w w' := by
  go_enter Try.func13, Try.ntmps13
  go_wp2
  go_rounds 1
  go_ret
  exact ⟨rfl, Below.refl _ _⟩

set_option maxHeartbeats 1000000 in
theorem same_row (l : List Int) (hl : l.length ≤ 1000000) (g1 g2 c1 c2 : Nat) (w : World) (h1 : ∀ k (hk : k < l.length), w.cell? ⟨g1, k, none⟩ = some (.int .i32 (l[k]'hk))) (h2 : ∀ k (hk : k < l.length), w.cell? ⟨g2, k, none⟩ = some (.int .i32 (l[k]'hk))) :
    Calls Try.prog 13 #[.slice (some ⟨g1, 0, none⟩) l.length c1, .slice (some ⟨g2, 0, none⟩) l.length c2] w fun e w' => e = .returned (.int .i64 1) ∧ Below w.heap.size w w' := by
  have H1 := Lib.hid h1
  have H2 := Lib.hid h2
  clear h1 h2
  go_enter Try.func13, Try.ntmps13
  go_wp2
  go_loopw [5] (fun i wr => ∃ k : Nat, k ≤ l.length ∧ i = .int .i64 k ∧ Hid (∀ a, wr.cell? a = w.cell? a) ∧ Below w.heap.size w wr) (fun i _ => l.length - (intOf i).toNat)
  case atStart => exact ⟨0, by omega, rfl, Lib.hid (fun _ => rfl), Below.refl _ _⟩
  case round =>
    obtain ⟨k, hk, rfl, HC, hb⟩ := hrel
    by_cases hp : k < l.length
    · obtain ⟨x, hx⟩ : ∃ x, x = l[k]'hp := ⟨_, rfl⟩
      have e1 : wr.cell? ⟨g1, k, none⟩ = some (.int .i32 x) := by rw [hx, HC.out]; exact H1.out k hp
      have e2 : wr.cell? ⟨g2, k, none⟩ = some (.int .i32 x) := by rw [hx, HC.out]; exact H2.out k hp
      clear hx
      go_wp2
      go_quiet (fail)
      go_wp2
      go_roundw
      case rel => exact ⟨k + 1, by omega, by go_num, HC, below_drewN hb _⟩
      case measure => simp [intOf]; omega
    · go_wp2
      go_ret
      exact ⟨rfl, hb⟩
theorem same_any {B1 B2 : Nat} {v1 v2 : Value} {l : List Int} (hl : l.length ≤ 1000000) {w : World} (h1 : OwnsI w B1 v1 l) (h2 : OwnsI w B2 v2 l) :
    Calls Try.prog 13 #[v1, v2] w fun e w' => e = .returned (.int .i64 1) ∧ Below w.heap.size w w' := by
  rcases h1.form with ⟨rfl, a1, c1, rfl⟩ | ⟨g1, c1, rfl, e1⟩
  · rcases h2.form with ⟨_, a2, c2, rfl⟩ | ⟨g2, c2, rfl, e2⟩
    · exact same_nil a1 a2 c1 c2 w
    · exact same_nil a1 _ c1 c2 w
  · rcases h2.form with ⟨rfl, a2, c2, rfl⟩ | ⟨g2, c2, rfl, e2⟩
    · exact same_nil _ a2 c1 c2 w
    · exact same_row l hl g1 g2 c1 c2 w e1 e2

theorem OwnsI.below {w w' : World} {B : Nat} {v : Value} {l : List Int} (h : OwnsI w B v l) (hb : Below w.heap.size w w') : OwnsI w' B v l := by
  obtain ⟨h1, h2⟩ := h
  refine ⟨h1, ?_⟩
  rcases h2 with h2 | ⟨g, cap, cur, rfl, b, c, d⟩
  · exact .inl h2
  · exact .inr ⟨g, cap, cur, rfl, b, by rw [hb.block g (block_lt c)]; exact c, d⟩

theorem segs_length : ∀ (n : Nat) (l : List UInt8), l.length ≤ n → (segs l).length ≤ l.length
  | 0, l, h => by
    obtain rfl := List.eq_nil_of_length_eq_zero (Nat.le_zero.1 h)
    rw [segs_nil]
    simp
  | n + 1, l, h => by
    by_cases hl : l = []
    · subst hl; rw [segs_nil]; simp
    · have hw := width_pos l hl
      have := segs_length n (l.drop (decL l).2) (by simp; omega)
      rw [segs_cons hl]
      simp at *
      omega
theorem runesZ_length (s : ByteArray) : (runesZ s.data.toList).length ≤ s.size := by
  have := segs_length _ s.data.toList (Nat.le_refl _)
  rw [len_data] at this
  simpa [runesZ] using this

set_option maxHeartbeats 1000000 in
theorem playsLaw_any (s : ByteArray) (hw : s.size ≤ maxLen) (w : World) : Calls Try.prog 3 #[.string s] w fun e w' => e = .returned (.bool true) ∧ Below w.heap.size w w' := by
  unfold maxLen at hw
  by_cases hs : s.size ≤ 400
  · have hl := runesZ_length s
    go_enter Try.func3, Try.ntmps3
    go_wp2_with (go_at_call 10; refine (awake_any _).mono ?_)
    rintro e w1 ⟨rfl, b1⟩
    have s1 := b1.size
    go_wp2_with (go_at_call 11; refine (right_any s _ (by omega)).mono ?_)
    rintro e w2 ⟨rfl, pos, rfl⟩
    have b2 := below_iter b1 (by omega) s pos
    have s2 := b2.size
    generalize w1.iter s pos = w2 at b2 s2 ⊢
    go_wp2_with (first | (go_at_call 12; refine (refright_any s _ (by omega)).mono ?_; rintro e w' ⟨rfl, rfl⟩) | (go_at_call 14; refine (split_any s _ (by omega)).mono ?_))
    rintro e w3 ⟨v1, rfl, o1, b3⟩
    have s3 := b3.size
    go_wp2_with (go_at_call 15; refine (refsplit_any s _ (by omega)).mono ?_)
    rintro e w4 ⟨v2, rfl, o2, b4⟩
    have o1' := o1.below b4
    have s4 := b4.size
    go_wp2_with (go_at_call 13; refine (same_any (by omega) o1' o2).mono ?_)
    rintro e w5 ⟨rfl, b5⟩
    go_wp2
    go_ret
    exact ⟨rfl, ((b2.trans (b3.mono (by omega))).trans (b4.mono (by omega))).trans (b5.mono (by omega))⟩
  · go_enter Try.func3, Try.ntmps3
    go_wp2_with (go_at_call 10; refine (awake_any _).mono ?_)
    rintro e w1 ⟨rfl, b1⟩
    have s1 := b1.size
    go_wp2_with (go_at_call 10; refine (awake_any _).mono ?_)
    rintro e w2 ⟨rfl, b2⟩
    go_wp2
    go_ret
    exact ⟨rfl, b1.trans (b2.mono (by omega))⟩
end Go.Proofs.Ytgnmceefdbbhaaa
