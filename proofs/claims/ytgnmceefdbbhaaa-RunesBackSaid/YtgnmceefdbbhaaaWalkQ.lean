/- RunesJoins answers true at every row of numbers. Conditions: none (of more than 400 numbers the law looks at the examples alone). -/
import Derived.Test.YtgnmceefdbbhaaaWalkP
namespace Go.Proofs.Ytgnmceefdbbhaaa
open Go.RowKit

theorem join_runes (l : List Int) : runesZ (joinL l) = l.map fun r => (fixR r : Int) := by
  unfold runesZ
  rw [join_segs, List.map_map]
  rfl
theorem fix_or (r : Int) : (fixR r : Int) = r ∨ (fixR r : Int) = 65533 := by
  unfold fixR
  split
  · exact .inl (by omega)
  · exact .inr rfl

set_option maxHeartbeats 1000000 in
theorem joins_long (a : Option Addr) (n c : Nat) (h : ¬ n ≤ 400) (w : World) : Calls Try.prog 4 #[.slice a n c] w fun e w' => e = .returned (.bool true) ∧ Below w.heap.size w w' := by
  have d1 : decide ((400 : Int) < (n : Int)) = true := by simp; omega
  go_enter Try.func4, Try.ntmps4
  go_wp2_with (go_at_call 10; refine (awake_any _).mono ?_)
  rintro e w1 ⟨rfl, b1⟩
  have s1 := b1.size
  go_wp2_with (go_at_call 10; refine (awake_any _).mono ?_)
  rintro e w2 ⟨rfl, b2⟩
  go_wp2
  go_ret
  exact ⟨rfl, b1.trans (b2.mono (by omega))⟩

set_option maxHeartbeats 4000000 in
theorem joins_short (a : Option Addr) (l : List Int) (c : Nat) (w : World) (hl : l.length ≤ 400) (hw : ∀ r ∈ l, -2147483648 ≤ r ∧ r ≤ 2147483647) (hs : Src w a l) :
    Calls Try.prog 4 #[.slice a l.length c] w fun e w' => e = .returned (.bool true) ∧ Below w.heap.size w w' := by
  have HS := Lib.hid hs
  have HW := Lib.hid hw
  have HR := Lib.hid (join_right l)
  have HJ := Lib.hid (join_runes l)
  have hjl := join_length l
  obtain ⟨J, hJ⟩ : ∃ J : ByteArray, J = ⟨(joinL l).toArray⟩ := ⟨_, rfl⟩
  have hJs : J.size ≤ 1600 := by rw [hJ]; show (joinL l).toArray.size ≤ 1600; simp; omega
  have HJd := Lib.hid (show J.data.toList = joinL l by rw [hJ])
  clear hs hw
  go_enter Try.func4, Try.ntmps4
  go_wp2_with (go_at_call 10; refine (awake_any _).mono ?_)
  rintro e w1 ⟨rfl, b1⟩
  have s1 := b1.size
  go_wp2_with (go_at_call 16; refine (join_any a l c _ (by omega) HW.out (HS.out.below b1)).mono ?_)
  rintro e w2 ⟨rfl, b2⟩
  have b2' := b1.trans (b2.mono (by omega))
  have s2 := b2'.size
  rw [← hJ]
  go_wp2_with (go_at_call 17; refine (refjoin_any a l c _ (by omega) HW.out (HS.out.below b2')).mono ?_)
  rintro e w3 ⟨rfl, b3⟩
  have b3' := b2'.trans (b3.mono (by omega))
  have s3 := b3'.size
  rw [← hJ]
  clear hJ b1 b2 b3
  go_wp2_with (go_at_call 11; refine (right_any J _ (by omega)).mono ?_)
  rintro e w4 ⟨rfl, pos, rfl⟩
  rw [HJd.out, HR.out]
  have b4 := below_iter b3' (by omega) J pos
  have s4 := b4.size
  generalize w3.iter J pos = w4 at b4 s4 ⊢
  go_wp2_with (go_at_call 14; refine (split_row J _ (by omega)).mono ?_)
  rintro e w5 ⟨v, rfl, o5, b5, n5⟩
  have b5' := b4.trans (b5.mono (by omega))
  have HS5 := Lib.hid (HS.out.below b5')
  rw [HJd.out, HJ.out] at o5
  obtain ⟨g, cap, rfl, hc5⟩ := o5.row n5
  have HC5 := Lib.hid hc5
  rw [List.length_map]
  clear hc5 o5 n5 b5 b4 s4 s3 s2 s1
  have s5 := b5'.size
  go_wp2
  go_loopw [5] (fun i wr => ∃ k : Nat, k ≤ l.length ∧ i = .int .i64 k ∧ Hid (∀ a, wr.cell? a = w5.cell? a) ∧ Below w.heap.size w wr) (fun i _ => l.length - (intOf i).toNat)
  case atStart => exact ⟨0, by omega, rfl, Lib.hid (fun _ => rfl), b5'⟩
  case round =>
    obtain ⟨k, hk, rfl, HC, hb⟩ := hrel
    by_cases hp : k < l.length
    · obtain ⟨r, hr⟩ : ∃ r, r = l[k]'hp := ⟨_, rfl⟩
      obtain ⟨x, hx⟩ : ∃ x : Int, x = fixR r := ⟨_, rfl⟩
      have hxr : x = r ∨ (x = 65533 ∧ x ≠ r) := by
        have := fix_or r
        omega
      rcases HS5.out with h0 | ⟨b, off, rfl, hlt, hcc⟩
      · rw [h0] at hp
        simp at hp
      · have e1 : wr.cell? ⟨g, k, none⟩ = some (.int .i32 x) := by
          rw [HC.out]
          have := HC5.out k (.int .i32 x) (by simp [runeRow, hp, hx, hr])
          rw [show (⟨g, 0, none⟩ : Addr).add k = ⟨g, k, none⟩ by simp [Addr.add]; rintro rfl; rfl] at this
          exact this
        have e2 : wr.cell? ⟨b, off + k, none⟩ = some (.int .i32 r) := by rw [HC.out, hr]; exact hcc k hp
        clear hcc hr hx
        rcases hxr with rfl | ⟨rfl, hne⟩
        · go_wp2
          go_quiet (fail)
          go_wp2
          go_roundw
          case rel => exact ⟨k + 1, by omega, by go_num, HC, below_drewN hb _⟩
          case measure => simp [intOf]; omega
        · have hne2 : ((65533 : Int) != r) = true := by simp; exact hne
          clear hne
          go_wp2
          go_quiet (fail)
          go_wp2
          go_roundw
          case rel => exact ⟨k + 1, by omega, by go_num, HC, below_drewN hb _⟩
          case measure => simp [intOf]; omega
    · go_wp2
      go_ret
      exact ⟨rfl, hb⟩

theorem joinsLaw_any (a : Option Addr) (len cap : Nat) (z : List Int) (w : World)
    (h : (a = none ∧ len = 0 ∧ cap = 0 ∧ z = []) ∨ ∃ x, a = some x ∧ len ≤ cap ∧ cap ≤ maxLen ∧ z.length = cap ∧ (∀ i, i < z.length → w.cell? (x.add i) = some (.int .i32 (z.getD i 0))) ∧ ∀ n ∈ z, (Lit.int .i32 n).wf = true) :
    Calls Try.prog 4 #[.slice a len cap] w fun e w' => e = .returned (.bool true) ∧ Below w.heap.size w w' := by
  by_cases hl : len ≤ 400
  · rcases h with ⟨rfl, rfl, rfl, rfl⟩ | ⟨x, rfl, h1, h2, h3, h4, h5⟩
    · exact joins_short none [] 0 w (by simp) (by simp) (.inl rfl)
    · have e : (z.take len).length = len := by simp; omega
      have hw : ∀ r ∈ z.take len, -2147483648 ≤ r ∧ r ≤ 2147483647 := by
        intro r hr
        have := h5 r (List.mem_of_mem_take hr)
        simp [Lit.wf, IntKind.min, IntKind.max, IntKind.signed, IntKind.bits] at this
        omega
      have hs : Src w (some x) (z.take len) := by
        by_cases h0 : len = 0
        · subst h0
          exact .inl (by simp)
        · obtain ⟨b, off, spot⟩ := x
          have hc := h4 0 (by omega)
          have hspot : spot = none := by simpa [Addr.add] using World.cell?_spot hc
          subst hspot
          refine .inr ⟨b, off, rfl, World.block_lt_of_cell? w _ hc, fun k hk => ?_⟩
          have hk' : k < z.length := by rw [e] at hk; omega
          have := h4 k hk'
          rw [show (⟨b, off, none⟩ : Addr).add k = ⟨b, off + k, none⟩ from by simp [Addr.add]] at this
          rw [this, List.getElem_take, List.getD_eq_getElem?_getD, List.getElem?_eq_getElem hk']
          rfl
      have := joins_short (some x) (z.take len) cap w (by omega) hw hs
      rw [e] at this
      exact this
  · exact joins_long a len cap hl w
end Go.Proofs.Ytgnmceefdbbhaaa
