/- Whether entries may be those of a span: what the reference's May answers. Conditions: at most 1000000 entries, texts of at most 1000000 bytes. -/
import Derived.Test.YtkapjijppjfmkaaEWalkF
namespace Go.Proofs.Ytkapjijppjfmkaa
open Go.RowKit Go.Op
set_option maxRecDepth 100000

set_option maxHeartbeats 4000000 in
theorem may_any (s : Sp) (a : Option Addr) (l : List En) (c : Nat) (w : World) (hl : l.length ≤ 1000000) (hE : Ents w a l) (hk : ∀ e ∈ l, e.key.size ≤ 1000000) (hs1 : s.lo.size ≤ 1000000) (hs2 : s.hi.size ≤ 1000000) :
    Calls Try.prog 23 #[s.v, .slice a l.length c] w fun e w' => e = .returned (.bool (rightB s l)) ∧ Below w.heap.size w w' := by
  have HE := Lib.hid hE
  have HK := Lib.hid hk
  clear hE hk
  have hh := fun k hk w => refhas_any s k hs1 hs2 hk w
  obtain ⟨lo, hi, all⟩ := s
  simp only [Sp.v]
  have HN := Lib.hid (fun i (hi' : i < l.length) (h : okAt ⟨lo, hi, all⟩ l i = false) => right_no hi' h)
  have HY := Lib.hid (fun h : ∀ i, i < l.length → okAt ⟨lo, hi, all⟩ l i = true => right_yes h)
  go_enter Try.func23, Try.ntmps23
  go_wp2
  go_loopw [5] (fun iv wr => ∃ i : Nat, i ≤ l.length ∧ iv = .int .i64 (i : Int) ∧ Hid (∀ j, j < i → okAt ⟨lo, hi, all⟩ l j = true) ∧ Hid (Below w.heap.size w wr ∧ At w.heap.size 0 ⟨lo, hi, all⟩ wr ∧ w.heap.size < wr.heap.size)) (fun iv _ => l.length - (intOf iv).toNat)
  case atStart => exact ⟨0, by omega, rfl, Lib.hid (fun j h => by omega), Lib.hid ⟨(Below.refl _ _).alloc (Nat.le_refl _) _, ⟨by simp [go_sem], by simp [go_sem], by simp [go_sem]⟩, by simp⟩⟩
  case round =>
    obtain ⟨i, hil, rfl, H1, HW⟩ := hrel
    obtain ⟨hb, hat, hsz⟩ := HW.out
    by_cases h1 : i < l.length
    · have i1 : (i : Int) < (l.length : Int) := by omega
      obtain ⟨eb, eo, rfl, heb, hc⟩ := HE.out.at h1
      have hc2 := hc.below hb heb
      have HOk := Lib.hid (okAt_eq (s := ⟨lo, hi, all⟩) h1)
      have HNi := Lib.hid (HN.out i h1)
      have hks := HK.out _ (List.getElem_mem h1)
      have HP : Hid (∀ j (hj : i = j + 1), (i == 0 || lt (l[i - 1]'(by omega)).key l[i].key) = lt (l[j]'(by omega)).key l[i].key ∧ wr.cell? ⟨eb, eo + j * 3, none⟩ = some (.string (l[j]'(by omega)).key) ∧ (l[j]'(by omega)).key.size ≤ 1000000) := Lib.hid (fun j hj => by
        obtain ⟨b2, o2, e2, hb2, hc3⟩ := HE.out.at (k := j) (by omega)
        cases e2
        refine ⟨?_, (hc3.below hb heb).1, HK.out _ (List.getElem_mem _)⟩
        subst hj
        simp)
      clear hc
      generalize l[i] = x at hc2 HOk HP hks
      obtain ⟨k, v, gn⟩ := x
      simp only at hks
      have hhk := hh k hks
      have s0 : EnAt wr.drew eb (eo + i * 3) ⟨k, v, gn⟩ := hc2
      have s1 : At w.heap.size 0 ⟨lo, hi, all⟩ wr.drew := hat
      have hkS : ∀ w1 w2 : World, (EnAt w1 eb (eo + i * 3) ⟨k, v, gn⟩ ∧ At w.heap.size 0 ⟨lo, hi, all⟩ w1) → Below wr.heap.size w1 w2 → (EnAt w2 eb (eo + i * 3) ⟨k, v, gn⟩ ∧ At w.heap.size 0 ⟨lo, hi, all⟩ w2) := fun w1 w2 h hb => ⟨h.1.below hb (by omega), h.2.keep hb hsz⟩
      clear hc2
      go_wp2_with fail
      cases hhas : (Sp.mk lo hi all).has k with
      | false =>
        rw [hhas] at hhk
        refine Free.region_puts (S := fun w' => EnAt w' eb (eo + i * 3) ⟨k, v, gn⟩ ∧ At w.heap.size 0 ⟨lo, hi, all⟩ w') (B0 := wr.heap.size) (w0 := wr.drew) (om := fun _ => 0) (olds := [])
          (tab := [(0, .load 23 ⟨w.heap.size, 0, none⟩ ((Sp.mk lo hi all).v)),
            (3, .gen [.slice (some ⟨eb, eo, none⟩) l.length c, .int .i64 (i : Int)] (.pointer (some ⟨eb, eo + i * 3, none⟩))),
            (5, .load 9 ⟨eb, eo + i * 3, none⟩ (.string k)),
            (6, .call 41 [(Sp.mk lo hi all).v, .string k] (.bool false))])
          (by kernel_rfl) ⟨by kernel_rfl, ⟨fun _ h => load_23 h.2, gen_at _ rfl rfl (fun w => at_24 _ _ _ _ _ (by omega) w), fun _ h => load_9 h.1.1, ⟨enter_41, fun w _ => hhk w⟩, trivial⟩,
            fun β => by kernel_rfl, fun β => by kernel_rfl, fun β => by kernel_rfl, by kernel_rfl, hkS, Nat.le_refl _, fun _ _ h => (by cases h), fun _ _ _ _ h => (by cases h)⟩
          ⟨s0, s1⟩ rfl (fun _ _ h => (by cases h)) (fun _ => Free.from_ 12 [(Sp.mk lo hi all).v, .slice (some ⟨eb, eo, none⟩) l.length c, .int .i64 (i : Int), .pointer (some ⟨eb, eo + i * 3, none⟩), .pointer (some ⟨eb, eo + i * 3, none⟩), .string k, .bool false, .bool true, .bool true, undef, undef, undef, undef, undef, undef, undef, undef, undef, undef, undef, undef, undef, undef, .bool true]) (fun β => by kernel_rfl) ?_
        intro β w4 t1 hz4 b4 _ _ _
        rw [drew_size] at hz4
        have HB4 := Lib.hid ((drew_below hb).trans (b4.mono (by omega)))
        clear b4 s0 s1 hhk hkS t1
        rw [Free.puts_from _ _ _ (Nat.le_of_ble_eq_true rfl)]
        simp only [List.take_succ_cons, List.take_zero, List.drop_succ_cons, List.drop_zero, List.cons_append, List.nil_append, List.length_cons, List.length_nil, Nat.reduceAdd]
        go_wp2
        go_ret
        exact ⟨ret_any (HNi.out (by rw [HOk.out]; simp [hhas])).symm, HB4.out⟩
      | true =>
        rw [hhas] at hhk
        cases gn with
        | false =>
          refine Free.region_puts (S := fun w' => EnAt w' eb (eo + i * 3) ⟨k, v, false⟩ ∧ At w.heap.size 0 ⟨lo, hi, all⟩ w') (B0 := wr.heap.size) (w0 := wr.drew) (om := fun _ => 0) (olds := [])
            (tab := [(0, .load 23 ⟨w.heap.size, 0, none⟩ ((Sp.mk lo hi all).v)),
              (3, .gen [.slice (some ⟨eb, eo, none⟩) l.length c, .int .i64 (i : Int)] (.pointer (some ⟨eb, eo + i * 3, none⟩))),
              (5, .load 9 ⟨eb, eo + i * 3, none⟩ (.string k)),
              (6, .call 41 [(Sp.mk lo hi all).v, .string k] (.bool true)),
              (11, .gen [.slice (some ⟨eb, eo, none⟩) l.length c, .int .i64 (i : Int)] (.pointer (some ⟨eb, eo + i * 3, none⟩))),
              (13, .load 4 ⟨eb, eo + i * 3 + 2, none⟩ (.bool false))])
            (by kernel_rfl) ⟨by kernel_rfl, ⟨fun _ h => load_23 h.2, gen_at _ rfl rfl (fun w => at_24 _ _ _ _ _ (by omega) w), fun _ h => load_9 h.1.1, ⟨enter_41, fun w _ => hhk w⟩, gen_at _ rfl rfl (fun w => at_24 _ _ _ _ _ (by omega) w), fun _ h => load_4 h.1.2.2, trivial⟩,
              fun β => by kernel_rfl, fun β => by kernel_rfl, fun β => by kernel_rfl, by kernel_rfl, hkS, Nat.le_refl _, fun _ _ h => (by cases h), fun _ _ _ _ h => (by cases h)⟩
            ⟨s0, s1⟩ rfl (fun _ _ h => (by cases h)) (fun _ => Free.from_ 12 [(Sp.mk lo hi all).v, .slice (some ⟨eb, eo, none⟩) l.length c, .int .i64 (i : Int), .pointer (some ⟨eb, eo + i * 3, none⟩), .pointer (some ⟨eb, eo + i * 3, none⟩), .string k, .bool true, .bool false, .bool false, .slice (some ⟨eb, eo, none⟩) l.length c, .int .i64 (i : Int), .pointer (some ⟨eb, eo + i * 3, none⟩), .pointer (some ⟨eb, eo + i * 3 + 2, none⟩), .bool false, .bool false, undef, undef, undef, undef, undef, undef, undef, .bool false, .bool false]) (fun β => by kernel_rfl) ?_
          intro β w4 t1 hz4 b4 _ _ _
          rw [drew_size] at hz4
          have HB4 := Lib.hid ((drew_below hb).trans (b4.mono (by omega)))
          have HA4 := Lib.hid t1.2
          have t0 := t1.1
          have b5 : Below wr.heap.size wr w4 := (drew_below (Below.refl wr.heap.size wr)).trans b4
          clear b4 s0 s1 hhk hkS t1
          rw [Free.puts_from _ _ _ (Nat.le_of_ble_eq_true rfl)]
          simp only [List.take_succ_cons, List.take_zero, List.drop_succ_cons, List.drop_zero, List.cons_append, List.nil_append, List.length_cons, List.length_nil, Nat.reduceAdd]
          go_wp2_with fail
          by_cases h0 : i = 0
          · have g0 : decide ((0 : Int) < (i : Int)) = false := decide_eq_false (by omega)
            refine Free.region_puts (S := fun w' => EnAt w' eb (eo + i * 3) ⟨k, v, false⟩) (B0 := w4.heap.size) (w0 := w4.drew) (om := fun _ => 0) (olds := [])
              (tab := [(1, .cmp .gtr 3 (.int .i64 (i : Int)) (.int .i64 0) (.bool false))])
              (by kernel_rfl) ⟨by kernel_rfl, ⟨fun xo yo w => cmp_gtr3 xo yo w g0, trivial⟩,
                fun β => by kernel_rfl, fun β => by kernel_rfl, fun β => by kernel_rfl, by kernel_rfl, (fun w1 w2 h hb => h.below hb (by omega)), Nat.le_refl _, fun _ _ h => (by cases h), fun _ _ _ _ h => (by cases h)⟩
              t0 rfl (fun _ _ h => (by cases h)) (fun _ => Free.from_ 36 [.int .i64 (i : Int), .bool false, .bool false, undef, undef, undef, undef, undef, undef, undef, undef, undef, undef, undef, undef, undef, .bool false]) (fun β => by kernel_rfl) ?_
            intro β w6 _ hz6 b6 _ _ _
            rw [drew_size] at hz6
            have HB6 := Lib.hid ((drew_below HB4.out).trans (b6.mono (by omega)))
            have HA6 := Lib.hid (At.keep HA4.out (Below.trans (drew_below (Below.refl w4.heap.size w4)) b6) (by omega))
            clear b6 t0
            rw [Free.puts_from _ _ _ (Nat.le_of_ble_eq_true rfl)]
            simp only [List.take_succ_cons, List.take_zero, List.drop_succ_cons, List.drop_zero, List.cons_append, List.nil_append, List.length_cons, List.length_nil, Nat.reduceAdd]
            go_wp2
            go_roundw
            case rel => exact ⟨i + 1, by omega, by go_num, Lib.hid (fun j' hj => by
              by_cases e : j' = i
              · subst e; rw [HOk.out]; simp [h0, hhas]
              · exact H1.out j' (by omega)), Lib.hid ⟨HB6.out, HA6.out, by omega⟩⟩
            case measure => simp [intOf]; omega
          · obtain ⟨j, hij⟩ : ∃ j, i = j + 1 := ⟨i - 1, by omega⟩
            have g0 : decide ((0 : Int) < (i : Int)) = true := decide_eq_true (by omega)
            obtain ⟨HPk, s2, hps⟩ := HP.out j hij
            generalize (l[j]'(by omega)).key = pk at HPk s2 hps
            have hll := fun w => less_any pk k hps hks w
            cases hlt : lt pk k with
            | false =>
              rw [hlt] at hll
              refine Free.region_puts (S := fun w' => (EnAt w' eb (eo + i * 3) ⟨k, v, false⟩) ∧ w'.cell? ⟨eb, eo + j * 3, none⟩ = some (.string pk)) (B0 := w4.heap.size) (w0 := w4.drew) (om := fun _ => 0) (olds := [])
                (tab := [(1, .cmp .gtr 3 (.int .i64 (i : Int)) (.int .i64 0) (.bool true)),
                  (5, .cmp .sub 3 (.int .i64 (i : Int)) (.int .i64 1) (.int .i64 (j : Int))),
                  (6, .gen [.slice (some ⟨eb, eo, none⟩) l.length c, .int .i64 (j : Int)] (.pointer (some ⟨eb, eo + j * 3, none⟩))),
                  (8, .load 9 ⟨eb, eo + j * 3, none⟩ (.string pk)),
                  (11, .gen [.slice (some ⟨eb, eo, none⟩) l.length c, .int .i64 (i : Int)] (.pointer (some ⟨eb, eo + i * 3, none⟩))),
                  (13, .load 9 ⟨eb, eo + i * 3, none⟩ (.string k)),
                  (14, .call 45 [.string pk, .string k] (.bool false))])
                (by kernel_rfl) ⟨by kernel_rfl, ⟨fun xo yo w => cmp_gtr3 xo yo w g0, fun xo yo w => cmp_sub3 xo yo w (by omega) (by omega) (by omega), gen_at _ rfl rfl (fun w => at_24 _ _ _ _ _ (by omega) w), fun _ h => load_9 h.2, gen_at _ rfl rfl (fun w => at_24 _ _ _ _ _ (by omega) w), fun _ h => load_9 h.1.1, ⟨enter_45, fun w _ => hll w⟩, trivial⟩,
                  fun β => by kernel_rfl, fun β => by kernel_rfl, fun β => by kernel_rfl, by kernel_rfl, (fun w1 w2 h hb => ⟨h.1.below hb (by omega), cell_keep hb (by show eb < _; omega) h.2⟩), Nat.le_refl _, fun _ _ h => (by cases h), fun _ _ _ _ h => (by cases h)⟩
                ⟨t0, cell_keep (drew_below b5) (by show eb < wr.heap.size; omega) s2⟩ rfl (fun _ _ h => (by cases h)) (fun _ => Free.from_ 36 [.int .i64 (i : Int), .bool true, .bool true, .slice (some ⟨eb, eo, none⟩) l.length c, .int .i64 (i : Int), .int .i64 (j : Int), .pointer (some ⟨eb, eo + j * 3, none⟩), .pointer (some ⟨eb, eo + j * 3, none⟩), .string pk, .slice (some ⟨eb, eo, none⟩) l.length c, .int .i64 (i : Int), .pointer (some ⟨eb, eo + i * 3, none⟩), .pointer (some ⟨eb, eo + i * 3, none⟩), .string k, .bool false, .bool true, .bool true]) (fun β => by kernel_rfl) ?_
              intro β w6 _ hz6 b6 _ _ _
              rw [drew_size] at hz6
              have HB6 := Lib.hid ((drew_below HB4.out).trans (b6.mono (by omega)))
              clear b6 t0
              rw [Free.puts_from _ _ _ (Nat.le_of_ble_eq_true rfl)]
              simp only [List.take_succ_cons, List.take_zero, List.drop_succ_cons, List.drop_zero, List.cons_append, List.nil_append, List.length_cons, List.length_nil, Nat.reduceAdd]
              go_wp2
              go_ret
              exact ⟨ret_any (HNi.out (by rw [HOk.out, HPk]; simp [hlt])).symm, HB6.out⟩
            | true =>
              rw [hlt] at hll
              refine Free.region_puts (S := fun w' => (EnAt w' eb (eo + i * 3) ⟨k, v, false⟩) ∧ w'.cell? ⟨eb, eo + j * 3, none⟩ = some (.string pk)) (B0 := w4.heap.size) (w0 := w4.drew) (om := fun _ => 0) (olds := [])
                (tab := [(1, .cmp .gtr 3 (.int .i64 (i : Int)) (.int .i64 0) (.bool true)),
                  (5, .cmp .sub 3 (.int .i64 (i : Int)) (.int .i64 1) (.int .i64 (j : Int))),
                  (6, .gen [.slice (some ⟨eb, eo, none⟩) l.length c, .int .i64 (j : Int)] (.pointer (some ⟨eb, eo + j * 3, none⟩))),
                  (8, .load 9 ⟨eb, eo + j * 3, none⟩ (.string pk)),
                  (11, .gen [.slice (some ⟨eb, eo, none⟩) l.length c, .int .i64 (i : Int)] (.pointer (some ⟨eb, eo + i * 3, none⟩))),
                  (13, .load 9 ⟨eb, eo + i * 3, none⟩ (.string k)),
                  (14, .call 45 [.string pk, .string k] (.bool true))])
                (by kernel_rfl) ⟨by kernel_rfl, ⟨fun xo yo w => cmp_gtr3 xo yo w g0, fun xo yo w => cmp_sub3 xo yo w (by omega) (by omega) (by omega), gen_at _ rfl rfl (fun w => at_24 _ _ _ _ _ (by omega) w), fun _ h => load_9 h.2, gen_at _ rfl rfl (fun w => at_24 _ _ _ _ _ (by omega) w), fun _ h => load_9 h.1.1, ⟨enter_45, fun w _ => hll w⟩, trivial⟩,
                  fun β => by kernel_rfl, fun β => by kernel_rfl, fun β => by kernel_rfl, by kernel_rfl, (fun w1 w2 h hb => ⟨h.1.below hb (by omega), cell_keep hb (by show eb < _; omega) h.2⟩), Nat.le_refl _, fun _ _ h => (by cases h), fun _ _ _ _ h => (by cases h)⟩
                ⟨t0, cell_keep (drew_below b5) (by show eb < wr.heap.size; omega) s2⟩ rfl (fun _ _ h => (by cases h)) (fun _ => Free.from_ 36 [.int .i64 (i : Int), .bool true, .bool true, .slice (some ⟨eb, eo, none⟩) l.length c, .int .i64 (i : Int), .int .i64 (j : Int), .pointer (some ⟨eb, eo + j * 3, none⟩), .pointer (some ⟨eb, eo + j * 3, none⟩), .string pk, .slice (some ⟨eb, eo, none⟩) l.length c, .int .i64 (i : Int), .pointer (some ⟨eb, eo + i * 3, none⟩), .pointer (some ⟨eb, eo + i * 3, none⟩), .string k, .bool true, .bool false, .bool false]) (fun β => by kernel_rfl) ?_
              intro β w6 _ hz6 b6 _ _ _
              rw [drew_size] at hz6
              have HB6 := Lib.hid ((drew_below HB4.out).trans (b6.mono (by omega)))
              have HA6 := Lib.hid (At.keep HA4.out (Below.trans (drew_below (Below.refl w4.heap.size w4)) b6) (by omega))
              clear b6 t0
              rw [Free.puts_from _ _ _ (Nat.le_of_ble_eq_true rfl)]
              simp only [List.take_succ_cons, List.take_zero, List.drop_succ_cons, List.drop_zero, List.cons_append, List.nil_append, List.length_cons, List.length_nil, Nat.reduceAdd]
              go_wp2
              go_roundw
              case rel => exact ⟨i + 1, by omega, by go_num, Lib.hid (fun j' hj => by
                by_cases e : j' = i
                · subst e; rw [HOk.out, HPk]; simp [hlt, hhas]
                · exact H1.out j' (by omega)), Lib.hid ⟨HB6.out, HA6.out, by omega⟩⟩
              case measure => simp [intOf]; omega
        | true =>
          by_cases hv : v.size = 0
          · have hv2 : decide ((0 : Int) < (v.size : Int)) = false := decide_eq_false (by omega)
            refine Free.region_puts (S := fun w' => EnAt w' eb (eo + i * 3) ⟨k, v, true⟩ ∧ At w.heap.size 0 ⟨lo, hi, all⟩ w') (B0 := wr.heap.size) (w0 := wr.drew) (om := fun _ => 0) (olds := [])
              (tab := [(0, .load 23 ⟨w.heap.size, 0, none⟩ ((Sp.mk lo hi all).v)),
                (3, .gen [.slice (some ⟨eb, eo, none⟩) l.length c, .int .i64 (i : Int)] (.pointer (some ⟨eb, eo + i * 3, none⟩))),
                (5, .load 9 ⟨eb, eo + i * 3, none⟩ (.string k)),
                (6, .call 41 [(Sp.mk lo hi all).v, .string k] (.bool true)),
                (11, .gen [.slice (some ⟨eb, eo, none⟩) l.length c, .int .i64 (i : Int)] (.pointer (some ⟨eb, eo + i * 3, none⟩))),
                (13, .load 4 ⟨eb, eo + i * 3 + 2, none⟩ (.bool true)),
                (17, .gen [.slice (some ⟨eb, eo, none⟩) l.length c, .int .i64 (i : Int)] (.pointer (some ⟨eb, eo + i * 3, none⟩))),
                (19, .load 9 ⟨eb, eo + i * 3 + 1, none⟩ (.string v)),
                (20, .gen [.string v] (.int .i64 (v.size : Int))),
                (21, .cmp .gtr 3 (.int .i64 (v.size : Int)) (.int .i64 0) (.bool false))])
              (by kernel_rfl) ⟨by kernel_rfl, ⟨fun _ h => load_23 h.2, gen_at _ rfl rfl (fun w => at_24 _ _ _ _ _ (by omega) w), fun _ h => load_9 h.1.1, ⟨enter_41, fun w _ => hhk w⟩, gen_at _ rfl rfl (fun w => at_24 _ _ _ _ _ (by omega) w), fun _ h => load_4 h.1.2.2, gen_at _ rfl rfl (fun w => at_24 _ _ _ _ _ (by omega) w), fun _ h => load_9 h.1.2.1, gen_len _ rfl rfl (len_9 _), fun xo yo w => cmp_gtr3 xo yo w hv2, trivial⟩,
                fun β => by kernel_rfl, fun β => by kernel_rfl, fun β => by kernel_rfl, by kernel_rfl, hkS, Nat.le_refl _, fun _ _ h => (by cases h), fun _ _ _ _ h => (by cases h)⟩
              ⟨s0, s1⟩ rfl (fun _ _ h => (by cases h)) (fun _ => Free.from_ 12 [(Sp.mk lo hi all).v, .slice (some ⟨eb, eo, none⟩) l.length c, .int .i64 (i : Int), .pointer (some ⟨eb, eo + i * 3, none⟩), .pointer (some ⟨eb, eo + i * 3, none⟩), .string k, .bool true, .bool false, .bool false, .slice (some ⟨eb, eo, none⟩) l.length c, .int .i64 (i : Int), .pointer (some ⟨eb, eo + i * 3, none⟩), .pointer (some ⟨eb, eo + i * 3 + 2, none⟩), .bool true, .bool true, .slice (some ⟨eb, eo, none⟩) l.length c, .int .i64 (i : Int), .pointer (some ⟨eb, eo + i * 3, none⟩), .pointer (some ⟨eb, eo + i * 3 + 1, none⟩), .string v, .int .i64 (v.size : Int), .bool false, .bool false, .bool false]) (fun β => by kernel_rfl) ?_
            intro β w4 t1 hz4 b4 _ _ _
            rw [drew_size] at hz4
            have HB4 := Lib.hid ((drew_below hb).trans (b4.mono (by omega)))
            have HA4 := Lib.hid t1.2
            have t0 := t1.1
            have b5 : Below wr.heap.size wr w4 := (drew_below (Below.refl wr.heap.size wr)).trans b4
            clear b4 s0 s1 hhk hkS t1
            rw [Free.puts_from _ _ _ (Nat.le_of_ble_eq_true rfl)]
            simp only [List.take_succ_cons, List.take_zero, List.drop_succ_cons, List.drop_zero, List.cons_append, List.nil_append, List.length_cons, List.length_nil, Nat.reduceAdd]
            go_wp2_with fail
            by_cases h0 : i = 0
            · have g0 : decide ((0 : Int) < (i : Int)) = false := decide_eq_false (by omega)
              refine Free.region_puts (S := fun w' => EnAt w' eb (eo + i * 3) ⟨k, v, true⟩) (B0 := w4.heap.size) (w0 := w4.drew) (om := fun _ => 0) (olds := [])
                (tab := [(1, .cmp .gtr 3 (.int .i64 (i : Int)) (.int .i64 0) (.bool false))])
                (by kernel_rfl) ⟨by kernel_rfl, ⟨fun xo yo w => cmp_gtr3 xo yo w g0, trivial⟩,
                  fun β => by kernel_rfl, fun β => by kernel_rfl, fun β => by kernel_rfl, by kernel_rfl, (fun w1 w2 h hb => h.below hb (by omega)), Nat.le_refl _, fun _ _ h => (by cases h), fun _ _ _ _ h => (by cases h)⟩
                t0 rfl (fun _ _ h => (by cases h)) (fun _ => Free.from_ 36 [.int .i64 (i : Int), .bool false, .bool false, undef, undef, undef, undef, undef, undef, undef, undef, undef, undef, undef, undef, undef, .bool false]) (fun β => by kernel_rfl) ?_
              intro β w6 _ hz6 b6 _ _ _
              rw [drew_size] at hz6
              have HB6 := Lib.hid ((drew_below HB4.out).trans (b6.mono (by omega)))
              have HA6 := Lib.hid (At.keep HA4.out (Below.trans (drew_below (Below.refl w4.heap.size w4)) b6) (by omega))
              clear b6 t0
              rw [Free.puts_from _ _ _ (Nat.le_of_ble_eq_true rfl)]
              simp only [List.take_succ_cons, List.take_zero, List.drop_succ_cons, List.drop_zero, List.cons_append, List.nil_append, List.length_cons, List.length_nil, Nat.reduceAdd]
              go_wp2
              go_roundw
              case rel => exact ⟨i + 1, by omega, by go_num, Lib.hid (fun j' hj => by
                by_cases e : j' = i
                · subst e; rw [HOk.out]; simp [h0, hhas, hv]
                · exact H1.out j' (by omega)), Lib.hid ⟨HB6.out, HA6.out, by omega⟩⟩
              case measure => simp [intOf]; omega
            · obtain ⟨j, hij⟩ : ∃ j, i = j + 1 := ⟨i - 1, by omega⟩
              have g0 : decide ((0 : Int) < (i : Int)) = true := decide_eq_true (by omega)
              obtain ⟨HPk, s2, hps⟩ := HP.out j hij
              generalize (l[j]'(by omega)).key = pk at HPk s2 hps
              have hll := fun w => less_any pk k hps hks w
              cases hlt : lt pk k with
              | false =>
                rw [hlt] at hll
                refine Free.region_puts (S := fun w' => (EnAt w' eb (eo + i * 3) ⟨k, v, true⟩) ∧ w'.cell? ⟨eb, eo + j * 3, none⟩ = some (.string pk)) (B0 := w4.heap.size) (w0 := w4.drew) (om := fun _ => 0) (olds := [])
                  (tab := [(1, .cmp .gtr 3 (.int .i64 (i : Int)) (.int .i64 0) (.bool true)),
                    (5, .cmp .sub 3 (.int .i64 (i : Int)) (.int .i64 1) (.int .i64 (j : Int))),
                    (6, .gen [.slice (some ⟨eb, eo, none⟩) l.length c, .int .i64 (j : Int)] (.pointer (some ⟨eb, eo + j * 3, none⟩))),
                    (8, .load 9 ⟨eb, eo + j * 3, none⟩ (.string pk)),
                    (11, .gen [.slice (some ⟨eb, eo, none⟩) l.length c, .int .i64 (i : Int)] (.pointer (some ⟨eb, eo + i * 3, none⟩))),
                    (13, .load 9 ⟨eb, eo + i * 3, none⟩ (.string k)),
                    (14, .call 45 [.string pk, .string k] (.bool false))])
                  (by kernel_rfl) ⟨by kernel_rfl, ⟨fun xo yo w => cmp_gtr3 xo yo w g0, fun xo yo w => cmp_sub3 xo yo w (by omega) (by omega) (by omega), gen_at _ rfl rfl (fun w => at_24 _ _ _ _ _ (by omega) w), fun _ h => load_9 h.2, gen_at _ rfl rfl (fun w => at_24 _ _ _ _ _ (by omega) w), fun _ h => load_9 h.1.1, ⟨enter_45, fun w _ => hll w⟩, trivial⟩,
                    fun β => by kernel_rfl, fun β => by kernel_rfl, fun β => by kernel_rfl, by kernel_rfl, (fun w1 w2 h hb => ⟨h.1.below hb (by omega), cell_keep hb (by show eb < _; omega) h.2⟩), Nat.le_refl _, fun _ _ h => (by cases h), fun _ _ _ _ h => (by cases h)⟩
                  ⟨t0, cell_keep (drew_below b5) (by show eb < wr.heap.size; omega) s2⟩ rfl (fun _ _ h => (by cases h)) (fun _ => Free.from_ 36 [.int .i64 (i : Int), .bool true, .bool true, .slice (some ⟨eb, eo, none⟩) l.length c, .int .i64 (i : Int), .int .i64 (j : Int), .pointer (some ⟨eb, eo + j * 3, none⟩), .pointer (some ⟨eb, eo + j * 3, none⟩), .string pk, .slice (some ⟨eb, eo, none⟩) l.length c, .int .i64 (i : Int), .pointer (some ⟨eb, eo + i * 3, none⟩), .pointer (some ⟨eb, eo + i * 3, none⟩), .string k, .bool false, .bool true, .bool true]) (fun β => by kernel_rfl) ?_
                intro β w6 _ hz6 b6 _ _ _
                rw [drew_size] at hz6
                have HB6 := Lib.hid ((drew_below HB4.out).trans (b6.mono (by omega)))
                clear b6 t0
                rw [Free.puts_from _ _ _ (Nat.le_of_ble_eq_true rfl)]
                simp only [List.take_succ_cons, List.take_zero, List.drop_succ_cons, List.drop_zero, List.cons_append, List.nil_append, List.length_cons, List.length_nil, Nat.reduceAdd]
                go_wp2
                go_ret
                exact ⟨ret_any (HNi.out (by rw [HOk.out, HPk]; simp [hlt])).symm, HB6.out⟩
              | true =>
                rw [hlt] at hll
                refine Free.region_puts (S := fun w' => (EnAt w' eb (eo + i * 3) ⟨k, v, true⟩) ∧ w'.cell? ⟨eb, eo + j * 3, none⟩ = some (.string pk)) (B0 := w4.heap.size) (w0 := w4.drew) (om := fun _ => 0) (olds := [])
                  (tab := [(1, .cmp .gtr 3 (.int .i64 (i : Int)) (.int .i64 0) (.bool true)),
                    (5, .cmp .sub 3 (.int .i64 (i : Int)) (.int .i64 1) (.int .i64 (j : Int))),
                    (6, .gen [.slice (some ⟨eb, eo, none⟩) l.length c, .int .i64 (j : Int)] (.pointer (some ⟨eb, eo + j * 3, none⟩))),
                    (8, .load 9 ⟨eb, eo + j * 3, none⟩ (.string pk)),
                    (11, .gen [.slice (some ⟨eb, eo, none⟩) l.length c, .int .i64 (i : Int)] (.pointer (some ⟨eb, eo + i * 3, none⟩))),
                    (13, .load 9 ⟨eb, eo + i * 3, none⟩ (.string k)),
                    (14, .call 45 [.string pk, .string k] (.bool true))])
                  (by kernel_rfl) ⟨by kernel_rfl, ⟨fun xo yo w => cmp_gtr3 xo yo w g0, fun xo yo w => cmp_sub3 xo yo w (by omega) (by omega) (by omega), gen_at _ rfl rfl (fun w => at_24 _ _ _ _ _ (by omega) w), fun _ h => load_9 h.2, gen_at _ rfl rfl (fun w => at_24 _ _ _ _ _ (by omega) w), fun _ h => load_9 h.1.1, ⟨enter_45, fun w _ => hll w⟩, trivial⟩,
                    fun β => by kernel_rfl, fun β => by kernel_rfl, fun β => by kernel_rfl, by kernel_rfl, (fun w1 w2 h hb => ⟨h.1.below hb (by omega), cell_keep hb (by show eb < _; omega) h.2⟩), Nat.le_refl _, fun _ _ h => (by cases h), fun _ _ _ _ h => (by cases h)⟩
                  ⟨t0, cell_keep (drew_below b5) (by show eb < wr.heap.size; omega) s2⟩ rfl (fun _ _ h => (by cases h)) (fun _ => Free.from_ 36 [.int .i64 (i : Int), .bool true, .bool true, .slice (some ⟨eb, eo, none⟩) l.length c, .int .i64 (i : Int), .int .i64 (j : Int), .pointer (some ⟨eb, eo + j * 3, none⟩), .pointer (some ⟨eb, eo + j * 3, none⟩), .string pk, .slice (some ⟨eb, eo, none⟩) l.length c, .int .i64 (i : Int), .pointer (some ⟨eb, eo + i * 3, none⟩), .pointer (some ⟨eb, eo + i * 3, none⟩), .string k, .bool true, .bool false, .bool false]) (fun β => by kernel_rfl) ?_
                intro β w6 _ hz6 b6 _ _ _
                rw [drew_size] at hz6
                have HB6 := Lib.hid ((drew_below HB4.out).trans (b6.mono (by omega)))
                have HA6 := Lib.hid (At.keep HA4.out (Below.trans (drew_below (Below.refl w4.heap.size w4)) b6) (by omega))
                clear b6 t0
                rw [Free.puts_from _ _ _ (Nat.le_of_ble_eq_true rfl)]
                simp only [List.take_succ_cons, List.take_zero, List.drop_succ_cons, List.drop_zero, List.cons_append, List.nil_append, List.length_cons, List.length_nil, Nat.reduceAdd]
                go_wp2
                go_roundw
                case rel => exact ⟨i + 1, by omega, by go_num, Lib.hid (fun j' hj => by
                  by_cases e : j' = i
                  · subst e; rw [HOk.out, HPk]; simp [hlt, hhas, hv]
                  · exact H1.out j' (by omega)), Lib.hid ⟨HB6.out, HA6.out, by omega⟩⟩
                case measure => simp [intOf]; omega
          · have hv2 : decide ((0 : Int) < (v.size : Int)) = true := decide_eq_true (by omega)
            refine Free.region_puts (S := fun w' => EnAt w' eb (eo + i * 3) ⟨k, v, true⟩ ∧ At w.heap.size 0 ⟨lo, hi, all⟩ w') (B0 := wr.heap.size) (w0 := wr.drew) (om := fun _ => 0) (olds := [])
              (tab := [(0, .load 23 ⟨w.heap.size, 0, none⟩ ((Sp.mk lo hi all).v)),
                (3, .gen [.slice (some ⟨eb, eo, none⟩) l.length c, .int .i64 (i : Int)] (.pointer (some ⟨eb, eo + i * 3, none⟩))),
                (5, .load 9 ⟨eb, eo + i * 3, none⟩ (.string k)),
                (6, .call 41 [(Sp.mk lo hi all).v, .string k] (.bool true)),
                (11, .gen [.slice (some ⟨eb, eo, none⟩) l.length c, .int .i64 (i : Int)] (.pointer (some ⟨eb, eo + i * 3, none⟩))),
                (13, .load 4 ⟨eb, eo + i * 3 + 2, none⟩ (.bool true)),
                (17, .gen [.slice (some ⟨eb, eo, none⟩) l.length c, .int .i64 (i : Int)] (.pointer (some ⟨eb, eo + i * 3, none⟩))),
                (19, .load 9 ⟨eb, eo + i * 3 + 1, none⟩ (.string v)),
                (20, .gen [.string v] (.int .i64 (v.size : Int))),
                (21, .cmp .gtr 3 (.int .i64 (v.size : Int)) (.int .i64 0) (.bool true))])
              (by kernel_rfl) ⟨by kernel_rfl, ⟨fun _ h => load_23 h.2, gen_at _ rfl rfl (fun w => at_24 _ _ _ _ _ (by omega) w), fun _ h => load_9 h.1.1, ⟨enter_41, fun w _ => hhk w⟩, gen_at _ rfl rfl (fun w => at_24 _ _ _ _ _ (by omega) w), fun _ h => load_4 h.1.2.2, gen_at _ rfl rfl (fun w => at_24 _ _ _ _ _ (by omega) w), fun _ h => load_9 h.1.2.1, gen_len _ rfl rfl (len_9 _), fun xo yo w => cmp_gtr3 xo yo w hv2, trivial⟩,
                fun β => by kernel_rfl, fun β => by kernel_rfl, fun β => by kernel_rfl, by kernel_rfl, hkS, Nat.le_refl _, fun _ _ h => (by cases h), fun _ _ _ _ h => (by cases h)⟩
              ⟨s0, s1⟩ rfl (fun _ _ h => (by cases h)) (fun _ => Free.from_ 12 [(Sp.mk lo hi all).v, .slice (some ⟨eb, eo, none⟩) l.length c, .int .i64 (i : Int), .pointer (some ⟨eb, eo + i * 3, none⟩), .pointer (some ⟨eb, eo + i * 3, none⟩), .string k, .bool true, .bool false, .bool false, .slice (some ⟨eb, eo, none⟩) l.length c, .int .i64 (i : Int), .pointer (some ⟨eb, eo + i * 3, none⟩), .pointer (some ⟨eb, eo + i * 3 + 2, none⟩), .bool true, .bool true, .slice (some ⟨eb, eo, none⟩) l.length c, .int .i64 (i : Int), .pointer (some ⟨eb, eo + i * 3, none⟩), .pointer (some ⟨eb, eo + i * 3 + 1, none⟩), .string v, .int .i64 (v.size : Int), .bool true, .bool true, .bool true]) (fun β => by kernel_rfl) ?_
            intro β w4 t1 hz4 b4 _ _ _
            rw [drew_size] at hz4
            have HB4 := Lib.hid ((drew_below hb).trans (b4.mono (by omega)))
            clear b4 s0 s1 hhk hkS t1
            rw [Free.puts_from _ _ _ (Nat.le_of_ble_eq_true rfl)]
            simp only [List.take_succ_cons, List.take_zero, List.drop_succ_cons, List.drop_zero, List.cons_append, List.nil_append, List.length_cons, List.length_nil, Nat.reduceAdd]
            go_wp2
            go_ret
            exact ⟨ret_any (HNi.out (by rw [HOk.out]; simp [hhas, hv])).symm, HB4.out⟩
    · have i1 : ¬ (i : Int) < (l.length : Int) := by omega
      have HX := Lib.hid (HY.out fun j hj => H1.out j (by omega))
      go_wp2
      go_ret
      exact ⟨ret_any HX.out.symm, hb⟩
end Go.Proofs.Ytkapjijppjfmkaa
