/- RunesBack answers true at every text. Conditions: none (longer texts than 400 bytes: the law looks at the examples alone). -/
import Derived.Test.YtgnmceefdbbhaaaWalkQ
import Derived.Test.YtgnmceefdbbhaaaWalkS
import Derived.Test.YtgnmceefdbbhaaaMathH
namespace Go.Proofs.Ytgnmceefdbbhaaa
open Go.RowKit

theorem quote_good {Q : ByteArray} {l : List UInt8} (h : Q.data.toList = quoteL l) : Good Q := by
  have hl := (quote_length l).1
  have hs : Q.size = (quoteL l).length := by rw [← len_data, h]
  have e0 : ∀ (h0 : 0 < Q.size), (Q[0]'h0) = 34 := by
    intro h0
    have h1 : Q.data.toList[0]? = some 34 := by rw [h]; rfl
    rw [List.getElem?_eq_getElem (by rw [len_data]; omega)] at h1
    exact Option.some.inj h1
  have e1 : ∀ (h0 : Q.size - 1 < Q.size), (Q[Q.size - 1]'h0) = 34 := by
    intro h0
    have h1 : Q.data.toList.getLast? = some 34 := by rw [h]; unfold quoteL; exact List.getLast?_concat
    rw [List.getLast?_eq_getElem?, List.getElem?_eq_getElem (by rw [len_data]; omega)] at h1
    simp only [len_data] at h1
    exact Option.some.inj h1
  refine ⟨by omega, ?_, ?_, by rw [h]; exact quote_right l⟩
  · rw [e0]; rfl
  · rw [e1]; rfl
theorem back_unq {Q : ByteArray} {l : List UInt8} (h : Q.data.toList = quoteL l) : unq ((Q.data.toList.drop 1).take (Q.size - 2)) = some l := by
  have hs : Q.size = (quoteL l).length := by rw [← len_data, h]
  rw [h, hs, quote_within, unq_body]
theorem back_plain {Q : ByteArray} {l : List UInt8} (h : Q.data.toList = quoteL l) (k : Nat) (hk : k < Q.size) : Plain (Q[k]'hk) := by
  apply quote_plain l
  rw [← h]
  exact List.getElem_mem (l := Q.data.toList) (by simpa using hk)

set_option maxHeartbeats 4000000 in
theorem back_short (s : ByteArray) (w : World) (hs : s.size ≤ 400) : Calls Try.prog 5 #[.string s] w fun e w' => e = .returned (.bool true) ∧ Below w.heap.size w w' := by
  obtain ⟨Q, hQ⟩ : ∃ Q : ByteArray, Q = ⟨(quoteL s.data.toList).toArray⟩ := ⟨_, rfl⟩
  have hQd : Q.data.toList = quoteL s.data.toList := by rw [hQ]
  have hqs := quote_size s.data.toList
  rw [len_data] at hqs
  have hQs : Q.size ≤ 1602 := by rw [← len_data, hQd]; omega
  have HG := Lib.hid (quote_good hQd)
  have HU := Lib.hid (back_unq hQd)
  have HP := Lib.hid (back_plain hQd)
  have HR := Lib.hid (show rightL Q.data.toList = -1 by rw [hQd]; exact quote_right _)
  have hrz := runesZ_length s
  clear hQd hqs
  go_enter Try.func5, Try.ntmps5
  go_wp2_with (go_at_call 10; refine (awake_any _).mono ?_)
  rintro e w1 ⟨rfl, b1⟩
  have s1 := b1.size
  go_wp2_with (go_at_call 18; refine (quote_any s _ (by omega)).mono ?_)
  rintro e w2 ⟨rfl, b2⟩
  have b2' := b1.trans (b2.mono (by omega))
  have s2 := b2'.size
  rw [← hQ]
  clear hQ b1 b2
  go_wp2_with (go_at_call 19; refine (unquote_good Q _ (by omega) HG.out).mono ?_)
  rintro e w3 ⟨rfl, b3⟩
  have b3' := b2'.trans (b3.mono (by omega))
  have s3 := b3'.size
  rw [HU.out]
  clear b3
  have hrs : resV (some s.data.toList) = .tuple #[.string s, .bool true] := by rw [resV]
  rw [hrs]
  clear hrs
  go_wp2_with (go_at_call 11; refine (right_any Q _ (by omega)).mono ?_)
  rintro e w4 ⟨rfl, p4, rfl⟩
  rw [HR.out]
  have b4 := below_iter b3' (by omega) Q p4
  have s4 := b4.size
  generalize w3.iter Q p4 = w4 at b4 s4 ⊢
  clear b3' b2' s1 s2 s3
  go_wp2
  go_loop [6] (fun i => ∃ k : Nat, k ≤ Q.size ∧ i = .int .i64 k) (fun i => Q.size - (intOf i).toNat)
  case atStart => exact ⟨0, by omega, rfl⟩
  case round =>
    obtain ⟨k, hk, rfl⟩ := hrel
    by_cases hp : k < Q.size
    · have hpl := HP.out k hp
      unfold Plain at hpl
      have t32 : (32 : Int) ≤ ((Q[k]'hp).toNat : Int) := by omega
      have t127 : (((Q[k]'hp).toNat : Int) == 127) = false := by simp; omega
      clear hpl
      go_wp2
      go_round
      case rel => exact ⟨k + 1, by omega, by go_num⟩
      case measure => simp [intOf]; omega
    · go_wp2_with (go_at_call 14; refine (split_row s _ (by omega)).mono ?_)
      rintro e w5 v rfl o5 b5 n5
      have b5' := b4.trans (b5.mono (by omega))
      have s5 := b5'.size
      obtain ⟨g, cap, rfl, hc5⟩ := o5.row n5
      have hsrc : Src w5 (some ⟨g, 0, none⟩) (runesZ s.data.toList) := by
        by_cases h0 : runesZ s.data.toList = []
        · exact .inl h0
        · rcases o5.form with ⟨hh, _⟩ | ⟨g2, c2, hv, hcc⟩
          · exact absurd hh h0
          · have : g2 = g := by simp at hv; exact hv.1.symm
            subst this
            refine .inr ⟨g2, 0, rfl, ?_, fun k hk => by rw [Nat.zero_add]; exact hcc k hk⟩
            have hp0 := List.length_pos_iff.2 h0
            exact World.block_lt_of_cell? w5 _ (hcc 0 hp0)
      have hwf : ∀ r ∈ runesZ s.data.toList, -2147483648 ≤ r ∧ r ≤ 2147483647 := by
        intro r hr
        unfold runesZ at hr
        obtain ⟨gg, hgg, rfl⟩ := List.mem_map.1 hr
        rcases segs_sound _ s.data.toList (Nat.le_refl _) gg hgg with ⟨_, _, hv⟩ | ⟨_, hv, _⟩ <;> omega
      have HSR := Lib.hid hsrc
      have HWF := Lib.hid hwf
      clear hsrc hwf o5 n5 hc5 b5
      go_wp2_with (go_at_call 16; refine (join_any _ (runesZ s.data.toList) cap _ (by omega) HWF.out HSR.out).mono ?_)
      rintro e w6 ⟨rfl, b6⟩
      have b6' := b5'.trans (b6.mono (by omega))
      have s6 := b6'.size
      clear b6
      go_wp2_with (go_at_call 11; refine (right_any s _ (by omega)).mono ?_)
      rintro e w7 ⟨rfl, p7, rfl⟩
      go_wp2
      go_ret
      refine ⟨ret_bool ?_, below_iter b6' (by omega) _ _⟩
      have hj : joinL (runesZ s.data.toList) = s.data.toList ↔ rightL s.data.toList = -1 := join_back s.data.toList
      have hbd := rightL_bd s.data.toList
      rw [Lib.toList_data]
      by_cases hr : rightL s.data.toList = -1
      · have e1 : (joinL (runesZ s.data.toList) == s.data.toList) = true := by rw [beq_iff_eq]; exact hj.2 hr
        have e2 : decide (rightL s.data.toList < 0) = true := by rw [hr]; rfl
        rw [e1, e2]
        rfl
      · have e1 : (joinL (runesZ s.data.toList) == s.data.toList) = false := by rw [beq_eq_false_iff_ne]; exact fun k => hr (hj.1 k)
        have e2 : decide (rightL s.data.toList < 0) = false := by rw [decide_eq_false_iff_not]; omega
        rw [e1, e2]
        rfl
theorem backLaw_any (s : ByteArray) (hw : s.size ≤ maxLen) (w : World) : Calls Try.prog 5 #[.string s] w fun e w' => e = .returned (.bool true) ∧ Below w.heap.size w w' := by
  unfold maxLen at hw
  by_cases hs : s.size ≤ 400
  · exact back_short s w hs
  · go_enter Try.func5, Try.ntmps5
    go_wp2_with (go_at_call 10; refine (awake_any _).mono ?_)
    rintro e w1 ⟨rfl, b1⟩
    have s1 := b1.size
    go_wp2_with (go_at_call 10; refine (awake_any _).mono ?_)
    rintro e w2 ⟨rfl, b2⟩
    go_wp2
    go_ret
    exact ⟨rfl, b1.trans (b2.mono (by omega))⟩
end Go.Proofs.Ytgnmceefdbbhaaa
