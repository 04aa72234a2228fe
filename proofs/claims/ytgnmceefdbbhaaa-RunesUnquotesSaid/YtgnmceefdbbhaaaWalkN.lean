/- RunesParts answers true at every two texts. Conditions: none (where one is longer than 400 bytes, or the first isn't right, the law looks at the examples alone). -/
import Derived.Test.YtgnmceefdbbhaaaWalkM
import Derived.Test.YtgnmceefdbbhaaaMathD
namespace Go.Proofs.Ytgnmceefdbbhaaa
open Go.RowKit

theorem runesZ_append {s t : List UInt8} (h : rightL s = -1) : runesZ (s ++ t) = runesZ s ++ runesZ t := by
  unfold runesZ
  rw [segs_append h, List.map_append]
theorem OwnsI.mono {w : World} {B B' : Nat} {v : Value} {l : List Int} (h : OwnsI w B v l) (hB : B' ≤ B) : OwnsI w B' v l := by
  obtain ⟨h1, h2⟩ := h
  refine ⟨h1, ?_⟩
  rcases h2 with h2 | ⟨g, cap, cur, rfl, b, c, d⟩
  · exact .inl h2
  · exact .inr ⟨g, cap, cur, rfl, by omega, c, d⟩
theorem OwnsI.row {w : World} {base : Nat} {v : Value} {l : List Int} (h : OwnsI w base v l) (hn : NotNil v) :
    ∃ g cap, v = .slice (some ⟨g, 0, none⟩) l.length cap ∧ ∀ j u, (runeRow l)[j]? = some u → w.cell? ((⟨g, 0, none⟩ : Addr).add j) = some u := by
  rcases h.2 with ⟨rfl, h0⟩ | ⟨g, cap, cur, rfl, b, c, d⟩
  · exact absurd rfl hn
  · exact ⟨g, cap, rfl, World.ownsRow.cells h (g := g) rfl⟩
theorem wpList_append_runes {ops : Array Oper} {rest : List Oper} {o : Oper} {a : Act} {w : World} {Q : Exit → Act → World → Prop}
    (hg : o.guard = none) (s x : Operand) (hop : o.op = Op.call { callee := Callee.builtin Builtin.append, args := #[s, x], argTypes := #[25, 25] })
    (base : Nat) (v u : Value) (l m : List Int) (hs : a.eval s = v) (hx : a.eval x = u) (hown : OwnsI w base v l) (B : Nat) (hm : OwnsI w B u m) (hn : NotNil u) (hb : l.length + m.length ≤ 1000000) (hbase : base ≤ w.heap.size)
    (hK : ∀ v' w', OwnsI w' base v' (l ++ m) → w.grownBy w' v.ownBlock → wpList Try.prog ops Q rest (a.put o.dst v') w') :
    wpList Try.prog ops Q (o :: rest) a w := by
  obtain ⟨i0, hi, hz0, hz1, hz2⟩ := info_parts info21
  obtain ⟨g, cap, rfl, hc⟩ := hm.row hn
  refine wpList_append_own w hg s x 25 hop base 21 i0 (.int .i32 0) 1 4 Try.underlying25 hi hz0 hz1 hz2 rfl (by decide) v _ _ hs hown ⟨g, 0, none⟩ m.length cap (runeRow m) hx (by simp [runeRow]) hc (runes_one m) (by unfold maxLen; omega) (by omega) hbase ?_
  intro v' w' h1 h2 _
  refine hK v' w' ?_ h2
  unfold OwnsI runeRow
  rw [List.map_append, List.length_append]
  exact h1

set_option maxHeartbeats 1000000 in
theorem parts_long (s t : ByteArray) (_hs0 : s.size ≤ 9223372036854775807) (_ht0 : t.size ≤ 9223372036854775807) (h : ¬ s.size ≤ 400 ∨ (s.size ≤ 400 ∧ ¬ t.size ≤ 400)) (w : World) : Calls Try.prog 9 #[.string s, .string t] w fun e w' => e = .returned (.bool true) ∧ Below w.heap.size w w' := by
  rcases h with h | ⟨h, h2⟩
  · have d1 : decide ((400 : Int) < (s.size : Int)) = true := by simp; omega
    go_enter Try.func9, Try.ntmps9
    go_wp2_with (go_at_call 10; refine (awake_any _).mono ?_)
    rintro e w1 ⟨rfl, b1⟩
    have s1 := b1.size
    go_wp2_with (go_at_call 10; refine (awake_any _).mono ?_)
    rintro e w2 ⟨rfl, b2⟩
    go_wp2
    go_ret
    exact ⟨rfl, b1.trans (b2.mono (by omega))⟩
  · have d1 : decide ((400 : Int) < (s.size : Int)) = false := by simp; omega
    have d2 : decide ((400 : Int) < (t.size : Int)) = true := by simp; omega
    go_enter Try.func9, Try.ntmps9
    go_wp2_with (go_at_call 10; refine (awake_any _).mono ?_)
    rintro e w1 ⟨rfl, b1⟩
    have s1 := b1.size
    go_wp2_with (go_at_call 10; refine (awake_any _).mono ?_)
    rintro e w2 ⟨rfl, b2⟩
    go_wp2
    go_ret
    exact ⟨rfl, b1.trans (b2.mono (by omega))⟩

set_option maxHeartbeats 1000000 in
theorem parts_wrong (s t : ByteArray) (hs : s.size ≤ 400) (ht : t.size ≤ 400) (h : 0 ≤ rightL s.data.toList) (w : World) : Calls Try.prog 9 #[.string s, .string t] w fun e w' => e = .returned (.bool true) ∧ Below w.heap.size w w' := by
  go_enter Try.func9, Try.ntmps9
  go_wp2_with (go_at_call 10; refine (awake_any _).mono ?_)
  rintro e w1 ⟨rfl, b1⟩
  have s1 := b1.size
  go_wp2_with (go_at_call 11; refine (right_any s _ (by omega)).mono ?_)
  rintro e w2 ⟨rfl, pos, rfl⟩
  have b2 := below_iter b1 (by omega) s pos
  have s2 := b2.size
  generalize w1.iter s pos = w2 at b2 s2 ⊢
  go_wp2_with (go_at_call 10; refine (awake_any _).mono ?_)
  rintro e w3 ⟨rfl, b3⟩
  go_wp2
  go_ret
  exact ⟨rfl, b2.trans (b3.mono (by omega))⟩

set_option maxHeartbeats 2000000 in
theorem parts_right (s t : ByteArray) (hs : s.size ≤ 400) (ht : t.size ≤ 400) (h : rightL s.data.toList = -1) (w : World) : Calls Try.prog 9 #[.string s, .string t] w fun e w' => e = .returned (.bool true) ∧ Below w.heap.size w w' := by
  have HR := Lib.hid h
  have hst : (s ++ t).data.toList = s.data.toList ++ t.data.toList := by simp
  have HT := Lib.hid hst
  have hsz : (s ++ t).size = s.size + t.size := by simp
  have l1 := runesZ_length s
  have l2 := runesZ_length t
  have r0 := rightL_bd t.data.toList
  have r1 := rightL_le t.data.toList
  rw [len_data] at r1
  have HA := Lib.hid (rightL_append (t := t.data.toList) h)
  clear h hst
  go_enter Try.func9, Try.ntmps9
  go_wp2_with (go_at_call 10; refine (awake_any _).mono ?_)
  rintro e w1 ⟨rfl, b1⟩
  have s1 := b1.size
  go_wp2_with (go_at_call 11; refine (right_any s _ (by omega)).mono ?_)
  rintro e w2 ⟨rfl, pos, rfl⟩
  have b2 := below_iter b1 (by omega) s pos
  have s2 := b2.size
  generalize w1.iter s pos = w2 at b2 s2 ⊢
  rw [HR.out]
  go_wp2_with (go_at_call 14; refine (split_row s _ (by omega)).mono ?_)
  rintro e w3 ⟨v1, rfl, o1, b3, n1⟩
  have e0 : OwnsI (w2.alloc (.cells #[] 21)) w2.heap.size (.slice (some ⟨w2.heap.size, 0, none⟩) 0 0) [] := World.ownsRow_lit w2 #[] 0 (Nat.le_refl _) (by unfold maxLen; omega) rfl
  have e1 := e0.below b3
  have b3' := (b2.alloc (by omega) (.cells #[] 21)).trans (b3.mono (by simp; omega))
  have s3 := b3'.size
  have e1' := e1.mono s2
  clear b3 e0 e1
  go_wp2_with (at_builtin; refine wpList_append_runes rfl (.tmp 25) (.tmp 27) rfl w.heap.size _ _ [] _ rfl rfl e1' _ o1 n1 (by simp; omega) s3 ?_)
  intro v2 w4 o2 g4
  have b4 := b3'.grown g4 (by omega) (fun k hk => (World.ownsRow.lt e1' k hk).1)
  have s4 := b4.size
  clear e1' o1 g4
  go_wp2_with (go_at_call 14; refine (split_row t _ (by omega)).mono ?_)
  rintro e w5 ⟨v3, rfl, o3, b5, n3⟩
  have o2' := o2.below b5
  have b5' := b4.trans (b5.mono (by omega))
  have s5 := b5'.size
  clear o2 b5
  go_wp2_with (at_builtin; refine wpList_append_runes rfl (.tmp 28) (.tmp 30) rfl w.heap.size _ _ (runesZ s.data.toList) _ rfl rfl o2' _ o3 n3 (by omega) s5 ?_)
  intro v4 w6 o4 g6
  have b6 := b5'.grown g6 (by omega) (fun k hk => (World.ownsRow.lt o2' k hk).1)
  have s6 := b6.size
  have o4' : OwnsI w6 w.heap.size v4 (runesZ (s ++ t).data.toList) := by
    rw [HT.out, runesZ_append HR.out]
    simpa using o4
  clear o2' o3 o4 g6 b5'
  go_wp2_with (go_at_call 11; refine (right_any t _ (by omega)).mono ?_)
  rintro e w7 ⟨rfl, pos7, rfl⟩
  have b7 := below_iter b6 (by omega) t pos7
  have o7 : OwnsI (w6.iter t pos7) w.heap.size v4 (runesZ (s ++ t).data.toList) := o4'.alloc _
  have s7 := b7.size
  clear o4'
  generalize w6.iter t pos7 = w7 at b7 o7 s7 ⊢
  have HZ := Lib.hid hsz
  have hl8 : (runesZ (s ++ t).data.toList).length ≤ 1000000 := by
    have := runesZ_length (s ++ t)
    omega
  clear hsz
  by_cases hk : rightL t.data.toList = -1
  · have HK := Lib.hid hk
    have hk2 : rightL t.data.toList < 0 := by omega
    clear hk
    go_wp2_with (go_at_call 14; refine (split_any (s ++ t) _ (by rw [HZ.out]; omega)).mono ?_)
    rintro e w8 ⟨v8, rfl, o8, b8⟩
    have o7' := o7.below b8
    have b8' := b7.trans (b8.mono (by omega))
    have s8 := b8'.size
    go_wp2_with (go_at_call 13; refine (same_any hl8 o8 o7').mono ?_)
    rintro e w9 ⟨rfl, b9⟩
    have b9' := b8'.trans (b9.mono (by omega))
    have s9 := b9'.size
    clear o7 o7' o8 b8 b9
    go_wp2_with (go_at_call 11; refine (right_any (s ++ t) _ (by rw [HZ.out]; omega)).mono ?_)
    rintro e w10 ⟨rfl, pos10, rfl⟩
    go_wp2
    go_ret
    refine ⟨ret_bool ?_, below_iter b9' (by omega) _ _⟩
    simp only [beq_iff_eq]
    rw [HA.out, if_pos HK.out, HK.out]
  · have HK := Lib.hid hk
    have hk2 : 0 ≤ rightL t.data.toList := by omega
    clear hk
    go_wp2_with (go_at_call 14; refine (split_any (s ++ t) _ (by rw [HZ.out]; omega)).mono ?_)
    rintro e w8 ⟨v8, rfl, o8, b8⟩
    have o7' := o7.below b8
    have b8' := b7.trans (b8.mono (by omega))
    have s8 := b8'.size
    go_wp2_with (go_at_call 13; refine (same_any hl8 o8 o7').mono ?_)
    rintro e w9 ⟨rfl, b9⟩
    have b9' := b8'.trans (b9.mono (by omega))
    have s9 := b9'.size
    clear o7 o7' o8 b8 b9
    go_wp2_with (go_at_call 11; refine (right_any (s ++ t) _ (by rw [HZ.out]; omega)).mono ?_)
    rintro e w10 ⟨rfl, pos10, rfl⟩
    go_wp2
    go_ret
    refine ⟨ret_bool ?_, below_iter b9' (by omega) _ _⟩
    simp only [beq_iff_eq]
    rw [HA.out, if_neg HK.out, len_data]
theorem partsLaw_any (s t : ByteArray) (hs : s.size ≤ maxLen) (ht : t.size ≤ maxLen) (w : World) : Calls Try.prog 9 #[.string s, .string t] w fun e w' => e = .returned (.bool true) ∧ Below w.heap.size w w' := by
  unfold maxLen at hs ht
  by_cases h1 : s.size ≤ 400
  · by_cases h2 : t.size ≤ 400
    · by_cases h3 : rightL s.data.toList = -1
      · exact parts_right s t h1 h2 h3 w
      · exact parts_wrong s t h1 h2 (by have := rightL_bd s.data.toList; omega) w
    · exact parts_long s t (by omega) (by omega) (.inr ⟨h1, h2⟩) w
  · exact parts_long s t (by omega) (by omega) (.inl h1) w
end Go.Proofs.Ytgnmceefdbbhaaa
