/- Whether entries may be those of a span: what rev.right and the reference's May answer. Conditions: at most 1000000 entries, texts of at most 1000000 bytes. -/
import Derived.Test.YtjlifkhpohfiaaaEWalkA
import Derived.Test.YtjlifkhpohfiaaaEGen
import Derived.BigQuiet
namespace Go.Proofs.Ytjlifkhpohfiaaa
open Go.RowKit Go.Op
set_option maxRecDepth 100000

theorem ret_any {a b : Bool} (h : a = b) : Ending.returned (.bool a) = .returned (.bool b) := by rw [h]
theorem enter_40 (xs : Array Value) (w : World) : (callFunc 58 xs).run Try.prog w = .ok (.enter 58 xs) w := by kernel_rfl
theorem empty_text {v : ByteArray} (h : v.size = 0) : v = ⟨#[]⟩ := by
  cases v with
  | mk a => simp [ByteArray.size] at h; rw [h]
theorem full_text {v : ByteArray} (h : ¬ v.size = 0) : v ≠ ⟨#[]⟩ := by
  rintro rfl
  exact h rfl

set_option maxHeartbeats 4000000 in
theorem right_any (s : Sp) (a : Option Addr) (l : List En) (c : Nat) (w : World) (hl : l.length ≤ 1000000) (hE : Ents w a l) :
    Calls Try.prog 45 #[s.v, .slice a l.length c] w fun e w' => e = .returned (.bool (rightB s l)) ∧ Below w.heap.size w w' := by
  have HE := Lib.hid hE
  clear hE
  have hh := fun k w => has_any s k w
  obtain ⟨lo, hi, all⟩ := s
  simp only [Sp.v]
  have HN := Lib.hid (fun i (hi' : i < l.length) (h : okAt ⟨lo, hi, all⟩ l i = false) => right_no hi' h)
  have HY := Lib.hid (fun h : ∀ i, i < l.length → okAt ⟨lo, hi, all⟩ l i = true => right_yes h)
  go_enter Try.func45, Try.ntmps45
  go_wp2
  go_loopw [9] (fun iv wr => ∃ i : Nat, i ≤ l.length ∧ iv = .int .i64 (i : Int) ∧ Hid (∀ j, j < i → okAt ⟨lo, hi, all⟩ l j = true) ∧ Hid (Below w.heap.size w wr ∧ At w.heap.size 0 ⟨lo, hi, all⟩ wr ∧ w.heap.size < wr.heap.size)) (fun iv _ => l.length - (intOf iv).toNat)
  case atStart => exact ⟨0, by omega, rfl, Lib.hid (fun j h => by omega), Lib.hid ⟨(Below.refl _ _).alloc (Nat.le_refl _) _, ⟨by simp [go_sem], by simp [go_sem], by simp [go_sem]⟩, by simp⟩⟩
  case round =>
    obtain ⟨i, hil, rfl, H1, HW⟩ := hrel
    obtain ⟨hb, hat, hsz⟩ := HW.out
    by_cases h1 : i < l.length
    · have i1 : (i : Int) < (l.length : Int) := by omega
      obtain ⟨eb, eo, rfl, heb, hc⟩ := HE.out.at h1
      have hc2 := hc.below hb heb
      have HOk := Lib.hid (okAt_eq (s := ⟨lo, hi, all⟩) h1)
      have HNi := Lib.hid (HN.out i h1)
      have HP : Hid (∀ j (hj : i = j + 1), (i == 0 || lt (l[i - 1]'(by omega)).key l[i].key) = lt (l[j]'(by omega)).key l[i].key ∧ wr.cell? ⟨eb, eo + j * 3, none⟩ = some (.string (l[j]'(by omega)).key)) := Lib.hid (fun j hj => by
        obtain ⟨b2, o2, e2, hb2, hc3⟩ := HE.out.at (k := j) (by omega)
        cases e2
        refine ⟨?_, (hc3.below hb heb).1⟩
        subst hj
        simp)
      clear hc
      generalize l[i] = x at hc2 HOk HP
      obtain ⟨k, v, gn⟩ := x
      obtain ⟨c1, c2, c3⟩ := hc2
      simp only at c1 c2 c3
      have hhk := hh k
      have s0 : EnAt (wr.alloc (.cells #[.string k, .string v, .bool gn] 77)).drew wr.heap.size 0 ⟨k, v, gn⟩ := ⟨by simp [go_sem], by simp [go_sem], by simp [go_sem]⟩
      have s1 : At w.heap.size 0 ⟨lo, hi, all⟩ (wr.alloc (.cells #[.string k, .string v, .bool gn] 77)).drew := At.keep hat (drew_below ((Below.refl _ _).alloc (Nat.le_refl _) _)) hsz
      have hkS : ∀ w1 w2 : World, (EnAt w1 wr.heap.size 0 ⟨k, v, gn⟩ ∧ At w.heap.size 0 ⟨lo, hi, all⟩ w1) → Below (wr.heap.size + 1) w1 w2 → (EnAt w2 wr.heap.size 0 ⟨k, v, gn⟩ ∧ At w.heap.size 0 ⟨lo, hi, all⟩ w2) := fun w1 w2 h hb => ⟨h.1.below hb (Nat.lt_succ_self _), h.2.keep hb (by omega)⟩
      go_wp2_with fail
      by_cases h0 : i = 0
      · have g0 : decide ((0 : Int) < (i : Int)) = false := decide_eq_false (by omega)
        cases hhas : (Sp.mk lo hi all).has k with
        | false =>
          rw [hhas] at hhk
          refine Free.region_puts (S := fun w' => EnAt w' wr.heap.size 0 ⟨k, v, gn⟩ ∧ At w.heap.size 0 ⟨lo, hi, all⟩ w') (B0 := wr.heap.size + 1) (w0 := _) (om := fun _ => 0) (olds := [])
            (tab := [(1, .cmp .gtr 3 (.int .i64 (i : Int)) (.int .i64 0) (.bool false)),
              (14, .load 46 ⟨w.heap.size, 0, none⟩ ((Sp.mk lo hi all).v)),
              (16, .load 9 ⟨wr.heap.size, 0, none⟩ (.string k)),
              (17, .call 58 [(Sp.mk lo hi all).v, .string k] (.bool false))])
            (by kernel_rfl) ⟨by kernel_rfl, ⟨fun xo yo w => cmp_gtr3 xo yo w g0, fun _ h => load_28 h.2, fun _ h => load_9 h.1.1, ⟨enter_40, fun w _ => hhk w⟩, trivial⟩,
              fun β => by kernel_rfl, fun β => by kernel_rfl, fun β => by kernel_rfl, by kernel_rfl, hkS, by rw [drew_size]; simp, fun _ _ h => (by cases h), fun _ _ _ _ h => (by cases h)⟩
            ⟨s0, s1⟩ rfl (fun _ _ h => (by cases h)) (fun _ => Free.from_ 14 [.int .i64 (i : Int), .bool false, .bool false, undef, undef, undef, undef, undef, undef, undef, undef, undef, .bool false, .bool false, (Sp.mk lo hi all).v, .pointer (some ⟨wr.heap.size, 0, none⟩), .string k, .bool false, .bool true, .bool true, .bool true, undef, undef, undef, undef, undef, undef, undef, .bool true]) (fun β => by kernel_rfl) ?_
          intro β w4 _ hz4 b4 _ _ _
          rw [drew_size] at hz4
          simp at hz4
          have B4 : Below w.heap.size w w4 := ((hb.alloc (by omega) _).drew).trans (b4.mono (by omega))
          have HB4 := Lib.hid B4
          clear B4 b4 s0 s1 hhk c1 c2 c3 hkS
          rw [Free.puts_from _ _ _ (Nat.le_of_ble_eq_true rfl)]
          simp only [List.take_succ_cons, List.take_zero, List.drop_succ_cons, List.drop_zero, List.cons_append, List.nil_append, List.length_cons, List.length_nil, Nat.reduceAdd]
          go_wp2
          go_ret
          exact ⟨ret_any (HNi.out (by rw [HOk.out]; simp [hhas])).symm, HB4.out⟩
        | true =>
          rw [hhas] at hhk
          cases gn with
          | false =>
            refine Free.region_puts (S := fun w' => EnAt w' wr.heap.size 0 ⟨k, v, false⟩ ∧ At w.heap.size 0 ⟨lo, hi, all⟩ w') (B0 := wr.heap.size + 1) (w0 := _) (om := fun _ => 0) (olds := [])
              (tab := [(1, .cmp .gtr 3 (.int .i64 (i : Int)) (.int .i64 0) (.bool false)),
                (14, .load 46 ⟨w.heap.size, 0, none⟩ ((Sp.mk lo hi all).v)),
                (16, .load 9 ⟨wr.heap.size, 0, none⟩ (.string k)),
                (17, .call 58 [(Sp.mk lo hi all).v, .string k] (.bool true)),
                (22, .load 4 ⟨wr.heap.size, 2, none⟩ (.bool false))])
              (by kernel_rfl) ⟨by kernel_rfl, ⟨fun xo yo w => cmp_gtr3 xo yo w g0, fun _ h => load_28 h.2, fun _ h => load_9 h.1.1, ⟨enter_40, fun w _ => hhk w⟩, fun _ h => load_4 h.1.2.2, trivial⟩,
                fun β => by kernel_rfl, fun β => by kernel_rfl, fun β => by kernel_rfl, by kernel_rfl, hkS, by rw [drew_size]; simp, fun _ _ h => (by cases h), fun _ _ _ _ h => (by cases h)⟩
              ⟨s0, s1⟩ rfl (fun _ _ h => (by cases h)) (fun _ => Free.from_ 14 [.int .i64 (i : Int), .bool false, .bool false, undef, undef, undef, undef, undef, undef, undef, undef, undef, .bool false, .bool false, (Sp.mk lo hi all).v, .pointer (some ⟨wr.heap.size, 0, none⟩), .string k, .bool true, .bool false, .bool false, .bool false, .pointer (some ⟨wr.heap.size, 2, none⟩), .bool false, .bool false, undef, undef, undef, .bool false, .bool false]) (fun β => by kernel_rfl) ?_
            intro β w4 _ hz4 b4 _ _ _
            rw [drew_size] at hz4
            simp at hz4
            have B4 : Below w.heap.size w w4 := ((hb.alloc (by omega) _).drew).trans (b4.mono (by omega))
            have HB4 := Lib.hid B4
            have HA4 := Lib.hid (At.keep s1 b4 (by omega))
            clear B4 b4 s0 s1 hhk c1 c2 c3 hkS
            rw [Free.puts_from _ _ _ (Nat.le_of_ble_eq_true rfl)]
            simp only [List.take_succ_cons, List.take_zero, List.drop_succ_cons, List.drop_zero, List.cons_append, List.nil_append, List.length_cons, List.length_nil, Nat.reduceAdd]
            go_wp2
            go_roundw
            case rel => exact ⟨i + 1, by omega, by go_num, Lib.hid (fun j' hj => by
              by_cases e : j' = i
              · subst e; rw [HOk.out]; simp [h0, hhas]
              · exact H1.out j' (by omega)), Lib.hid ⟨HB4.out, HA4.out, by omega⟩⟩
            case measure => simp [intOf]; omega
          | true =>
            by_cases hv : v.size = 0
            · have hv2 : decide (v ≠ ⟨#[]⟩) = false := decide_eq_false (by rw [empty_text hv]; simp)
              refine Free.region_puts (S := fun w' => EnAt w' wr.heap.size 0 ⟨k, v, true⟩ ∧ At w.heap.size 0 ⟨lo, hi, all⟩ w') (B0 := wr.heap.size + 1) (w0 := _) (om := fun _ => 0) (olds := [])
                (tab := [(1, .cmp .gtr 3 (.int .i64 (i : Int)) (.int .i64 0) (.bool false)),
                  (14, .load 46 ⟨w.heap.size, 0, none⟩ ((Sp.mk lo hi all).v)),
                  (16, .load 9 ⟨wr.heap.size, 0, none⟩ (.string k)),
                  (17, .call 58 [(Sp.mk lo hi all).v, .string k] (.bool true)),
                  (22, .load 4 ⟨wr.heap.size, 2, none⟩ (.bool true)),
                  (25, .load 9 ⟨wr.heap.size, 1, none⟩ (.string v)),
                  (26, .cmp .neq 9 (.string v) (.string ⟨#[]⟩) (.bool false))])
                (by kernel_rfl) ⟨by kernel_rfl, ⟨fun xo yo w => cmp_gtr3 xo yo w g0, fun _ h => load_28 h.2, fun _ h => load_9 h.1.1, ⟨enter_40, fun w _ => hhk w⟩, fun _ h => load_4 h.1.2.2, fun _ h => load_9 h.1.2.1, fun xo yo w => cmp_neq9 xo yo w hv2, trivial⟩,
                  fun β => by kernel_rfl, fun β => by kernel_rfl, fun β => by kernel_rfl, by kernel_rfl, hkS, by rw [drew_size]; simp, fun _ _ h => (by cases h), fun _ _ _ _ h => (by cases h)⟩
                ⟨s0, s1⟩ rfl (fun _ _ h => (by cases h)) (fun _ => Free.from_ 14 [.int .i64 (i : Int), .bool false, .bool false, undef, undef, undef, undef, undef, undef, undef, undef, undef, .bool false, .bool false, (Sp.mk lo hi all).v, .pointer (some ⟨wr.heap.size, 0, none⟩), .string k, .bool true, .bool false, .bool false, .bool false, .pointer (some ⟨wr.heap.size, 2, none⟩), .bool true, .bool true, .pointer (some ⟨wr.heap.size, 1, none⟩), .string v, .bool false, .bool false, .bool false]) (fun β => by kernel_rfl) ?_
              intro β w4 _ hz4 b4 _ _ _
              rw [drew_size] at hz4
              simp at hz4
              have B4 : Below w.heap.size w w4 := ((hb.alloc (by omega) _).drew).trans (b4.mono (by omega))
              have HB4 := Lib.hid B4
              have HA4 := Lib.hid (At.keep s1 b4 (by omega))
              clear B4 b4 s0 s1 hhk c1 c2 c3 hkS
              rw [Free.puts_from _ _ _ (Nat.le_of_ble_eq_true rfl)]
              simp only [List.take_succ_cons, List.take_zero, List.drop_succ_cons, List.drop_zero, List.cons_append, List.nil_append, List.length_cons, List.length_nil, Nat.reduceAdd]
              go_wp2
              go_roundw
              case rel => exact ⟨i + 1, by omega, by go_num, Lib.hid (fun j' hj => by
                by_cases e : j' = i
                · subst e; rw [HOk.out]; simp [h0, hhas, hv]
                · exact H1.out j' (by omega)), Lib.hid ⟨HB4.out, HA4.out, by omega⟩⟩
              case measure => simp [intOf]; omega
            · have hv2 : decide (v ≠ ⟨#[]⟩) = true := decide_eq_true (full_text hv)
              refine Free.region_puts (S := fun w' => EnAt w' wr.heap.size 0 ⟨k, v, true⟩ ∧ At w.heap.size 0 ⟨lo, hi, all⟩ w') (B0 := wr.heap.size + 1) (w0 := _) (om := fun _ => 0) (olds := [])
                (tab := [(1, .cmp .gtr 3 (.int .i64 (i : Int)) (.int .i64 0) (.bool false)),
                  (14, .load 46 ⟨w.heap.size, 0, none⟩ ((Sp.mk lo hi all).v)),
                  (16, .load 9 ⟨wr.heap.size, 0, none⟩ (.string k)),
                  (17, .call 58 [(Sp.mk lo hi all).v, .string k] (.bool true)),
                  (22, .load 4 ⟨wr.heap.size, 2, none⟩ (.bool true)),
                  (25, .load 9 ⟨wr.heap.size, 1, none⟩ (.string v)),
                  (26, .cmp .neq 9 (.string v) (.string ⟨#[]⟩) (.bool true))])
                (by kernel_rfl) ⟨by kernel_rfl, ⟨fun xo yo w => cmp_gtr3 xo yo w g0, fun _ h => load_28 h.2, fun _ h => load_9 h.1.1, ⟨enter_40, fun w _ => hhk w⟩, fun _ h => load_4 h.1.2.2, fun _ h => load_9 h.1.2.1, fun xo yo w => cmp_neq9 xo yo w hv2, trivial⟩,
                  fun β => by kernel_rfl, fun β => by kernel_rfl, fun β => by kernel_rfl, by kernel_rfl, hkS, by rw [drew_size]; simp, fun _ _ h => (by cases h), fun _ _ _ _ h => (by cases h)⟩
                ⟨s0, s1⟩ rfl (fun _ _ h => (by cases h)) (fun _ => Free.from_ 14 [.int .i64 (i : Int), .bool false, .bool false, undef, undef, undef, undef, undef, undef, undef, undef, undef, .bool false, .bool false, (Sp.mk lo hi all).v, .pointer (some ⟨wr.heap.size, 0, none⟩), .string k, .bool true, .bool false, .bool false, .bool false, .pointer (some ⟨wr.heap.size, 2, none⟩), .bool true, .bool true, .pointer (some ⟨wr.heap.size, 1, none⟩), .string v, .bool true, .bool true, .bool true]) (fun β => by kernel_rfl) ?_
              intro β w4 _ hz4 b4 _ _ _
              rw [drew_size] at hz4
              simp at hz4
              have B4 : Below w.heap.size w w4 := ((hb.alloc (by omega) _).drew).trans (b4.mono (by omega))
              have HB4 := Lib.hid B4
              clear B4 b4 s0 s1 hhk c1 c2 c3 hkS
              rw [Free.puts_from _ _ _ (Nat.le_of_ble_eq_true rfl)]
              simp only [List.take_succ_cons, List.take_zero, List.drop_succ_cons, List.drop_zero, List.cons_append, List.nil_append, List.length_cons, List.length_nil, Nat.reduceAdd]
              go_wp2
              go_ret
              exact ⟨ret_any (HNi.out (by rw [HOk.out]; simp [hhas, hv])).symm, HB4.out⟩
      · obtain ⟨j, hij⟩ : ∃ j, i = j + 1 := ⟨i - 1, by omega⟩
        have g0 : decide ((0 : Int) < (i : Int)) = true := decide_eq_true (by omega)
        obtain ⟨HPk, s2'⟩ := HP.out j hij
        generalize (l[j]'(by omega)).key = pk at HPk s2'
        have s2 : (wr.alloc (.cells #[.string k, .string v, .bool gn] 77)).drew.cell? ⟨eb, eo + j * 3, none⟩ = some (.string pk) := cell_keep (drew_below ((Below.refl wr.heap.size wr).alloc (Nat.le_refl _) _)) (by show eb < _; omega) s2'
        cases hlt : lt pk k with
        | false =>
          refine Free.region_puts (S := fun w' => (EnAt w' wr.heap.size 0 ⟨k, v, gn⟩ ∧ At w.heap.size 0 ⟨lo, hi, all⟩ w') ∧ w'.cell? ⟨eb, eo + j * 3, none⟩ = some (.string pk)) (B0 := wr.heap.size + 1) (w0 := _) (om := fun _ => 0) (olds := [])
            (tab := [(1, .cmp .gtr 3 (.int .i64 (i : Int)) (.int .i64 0) (.bool true)),
              (5, .cmp .sub 3 (.int .i64 (i : Int)) (.int .i64 1) (.int .i64 (j : Int))),
              (6, .gen [.slice (some ⟨eb, eo, none⟩) l.length c, .int .i64 (j : Int)] (.pointer (some ⟨eb, eo + j * 3, none⟩))),
              (8, .load 9 ⟨eb, eo + j * 3, none⟩ (.string pk)),
              (10, .load 9 ⟨wr.heap.size, 0, none⟩ (.string k)),
              (11, .cmp .geq 9 (.string pk) (.string k) (.bool true))])
            (by kernel_rfl) ⟨by kernel_rfl, ⟨fun xo yo w => cmp_gtr3 xo yo w g0, fun xo yo w => cmp_sub3 xo yo w (by omega) (by omega) (by omega), gen_at _ rfl rfl (fun w => at_38 _ _ _ _ _ (by omega) w), fun _ h => load_9 h.2, fun _ h => load_9 h.1.1.1, fun xo yo w => cmp_geq9 xo yo w (by rw [hlt]; rfl), trivial⟩,
              fun β => by kernel_rfl, fun β => by kernel_rfl, fun β => by kernel_rfl, by kernel_rfl, (fun w1 w2 h hb => ⟨hkS w1 w2 h.1 hb, cell_keep hb (by show eb < _; omega) h.2⟩), by rw [drew_size]; simp, fun _ _ h => (by cases h), fun _ _ _ _ h => (by cases h)⟩
            ⟨⟨s0, s1⟩, s2⟩ rfl (fun _ _ h => (by cases h)) (fun _ => Free.from_ 14 [.int .i64 (i : Int), .bool true, .bool true, .slice (some ⟨eb, eo, none⟩) l.length c, .int .i64 (i : Int), .int .i64 (j : Int), .pointer (some ⟨eb, eo + j * 3, none⟩), .pointer (some ⟨eb, eo + j * 3, none⟩), .string pk, .pointer (some ⟨wr.heap.size, 0, none⟩), .string k, .bool true, .bool true, .bool true, undef, undef, undef, undef, undef, .bool true, .bool true, undef, undef, undef, undef, undef, undef, undef, .bool true]) (fun β => by kernel_rfl) ?_
          intro β w4 _ hz4 b4 _ _ _
          rw [drew_size] at hz4
          simp at hz4
          have B4 : Below w.heap.size w w4 := ((hb.alloc (by omega) _).drew).trans (b4.mono (by omega))
          have HB4 := Lib.hid B4
          clear B4 b4 s0 s1 hhk c1 c2 c3 hkS s2
          rw [Free.puts_from _ _ _ (Nat.le_of_ble_eq_true rfl)]
          simp only [List.take_succ_cons, List.take_zero, List.drop_succ_cons, List.drop_zero, List.cons_append, List.nil_append, List.length_cons, List.length_nil, Nat.reduceAdd]
          go_wp2
          go_ret
          exact ⟨ret_any (HNi.out (by rw [HOk.out, HPk]; simp [hlt])).symm, HB4.out⟩
        | true =>
          cases hhas : (Sp.mk lo hi all).has k with
          | false =>
            rw [hhas] at hhk
            refine Free.region_puts (S := fun w' => (EnAt w' wr.heap.size 0 ⟨k, v, gn⟩ ∧ At w.heap.size 0 ⟨lo, hi, all⟩ w') ∧ w'.cell? ⟨eb, eo + j * 3, none⟩ = some (.string pk)) (B0 := wr.heap.size + 1) (w0 := _) (om := fun _ => 0) (olds := [])
              (tab := [(1, .cmp .gtr 3 (.int .i64 (i : Int)) (.int .i64 0) (.bool true)),
                (5, .cmp .sub 3 (.int .i64 (i : Int)) (.int .i64 1) (.int .i64 (j : Int))),
                (6, .gen [.slice (some ⟨eb, eo, none⟩) l.length c, .int .i64 (j : Int)] (.pointer (some ⟨eb, eo + j * 3, none⟩))),
                (8, .load 9 ⟨eb, eo + j * 3, none⟩ (.string pk)),
                (10, .load 9 ⟨wr.heap.size, 0, none⟩ (.string k)),
                (11, .cmp .geq 9 (.string pk) (.string k) (.bool false)),
                (14, .load 46 ⟨w.heap.size, 0, none⟩ ((Sp.mk lo hi all).v)),
                (16, .load 9 ⟨wr.heap.size, 0, none⟩ (.string k)),
                (17, .call 58 [(Sp.mk lo hi all).v, .string k] (.bool false))])
              (by kernel_rfl) ⟨by kernel_rfl, ⟨fun xo yo w => cmp_gtr3 xo yo w g0, fun xo yo w => cmp_sub3 xo yo w (by omega) (by omega) (by omega), gen_at _ rfl rfl (fun w => at_38 _ _ _ _ _ (by omega) w), fun _ h => load_9 h.2, fun _ h => load_9 h.1.1.1, fun xo yo w => cmp_geq9 xo yo w (by rw [hlt]; rfl), fun _ h => load_28 h.1.2, fun _ h => load_9 h.1.1.1, ⟨enter_40, fun w _ => hhk w⟩, trivial⟩,
                fun β => by kernel_rfl, fun β => by kernel_rfl, fun β => by kernel_rfl, by kernel_rfl, (fun w1 w2 h hb => ⟨hkS w1 w2 h.1 hb, cell_keep hb (by show eb < _; omega) h.2⟩), by rw [drew_size]; simp, fun _ _ h => (by cases h), fun _ _ _ _ h => (by cases h)⟩
              ⟨⟨s0, s1⟩, s2⟩ rfl (fun _ _ h => (by cases h)) (fun _ => Free.from_ 14 [.int .i64 (i : Int), .bool true, .bool true, .slice (some ⟨eb, eo, none⟩) l.length c, .int .i64 (i : Int), .int .i64 (j : Int), .pointer (some ⟨eb, eo + j * 3, none⟩), .pointer (some ⟨eb, eo + j * 3, none⟩), .string pk, .pointer (some ⟨wr.heap.size, 0, none⟩), .string k, .bool false, .bool false, .bool false, (Sp.mk lo hi all).v, .pointer (some ⟨wr.heap.size, 0, none⟩), .string k, .bool false, .bool true, .bool true, .bool true, undef, undef, undef, undef, undef, undef, undef, .bool true]) (fun β => by kernel_rfl) ?_
            intro β w4 _ hz4 b4 _ _ _
            rw [drew_size] at hz4
            simp at hz4
            have B4 : Below w.heap.size w w4 := ((hb.alloc (by omega) _).drew).trans (b4.mono (by omega))
            have HB4 := Lib.hid B4
            clear B4 b4 s0 s1 hhk c1 c2 c3 hkS s2
            rw [Free.puts_from _ _ _ (Nat.le_of_ble_eq_true rfl)]
            simp only [List.take_succ_cons, List.take_zero, List.drop_succ_cons, List.drop_zero, List.cons_append, List.nil_append, List.length_cons, List.length_nil, Nat.reduceAdd]
            go_wp2
            go_ret
            exact ⟨ret_any (HNi.out (by rw [HOk.out, HPk]; simp [hlt, hhas])).symm, HB4.out⟩
          | true =>
            rw [hhas] at hhk
            cases gn with
            | false =>
              refine Free.region_puts (S := fun w' => (EnAt w' wr.heap.size 0 ⟨k, v, false⟩ ∧ At w.heap.size 0 ⟨lo, hi, all⟩ w') ∧ w'.cell? ⟨eb, eo + j * 3, none⟩ = some (.string pk)) (B0 := wr.heap.size + 1) (w0 := _) (om := fun _ => 0) (olds := [])
                (tab := [(1, .cmp .gtr 3 (.int .i64 (i : Int)) (.int .i64 0) (.bool true)),
                  (5, .cmp .sub 3 (.int .i64 (i : Int)) (.int .i64 1) (.int .i64 (j : Int))),
                  (6, .gen [.slice (some ⟨eb, eo, none⟩) l.length c, .int .i64 (j : Int)] (.pointer (some ⟨eb, eo + j * 3, none⟩))),
                  (8, .load 9 ⟨eb, eo + j * 3, none⟩ (.string pk)),
                  (10, .load 9 ⟨wr.heap.size, 0, none⟩ (.string k)),
                  (11, .cmp .geq 9 (.string pk) (.string k) (.bool false)),
                  (14, .load 46 ⟨w.heap.size, 0, none⟩ ((Sp.mk lo hi all).v)),
                  (16, .load 9 ⟨wr.heap.size, 0, none⟩ (.string k)),
                  (17, .call 58 [(Sp.mk lo hi all).v, .string k] (.bool true)),
                  (22, .load 4 ⟨wr.heap.size, 2, none⟩ (.bool false))])
                (by kernel_rfl) ⟨by kernel_rfl, ⟨fun xo yo w => cmp_gtr3 xo yo w g0, fun xo yo w => cmp_sub3 xo yo w (by omega) (by omega) (by omega), gen_at _ rfl rfl (fun w => at_38 _ _ _ _ _ (by omega) w), fun _ h => load_9 h.2, fun _ h => load_9 h.1.1.1, fun xo yo w => cmp_geq9 xo yo w (by rw [hlt]; rfl), fun _ h => load_28 h.1.2, fun _ h => load_9 h.1.1.1, ⟨enter_40, fun w _ => hhk w⟩, fun _ h => load_4 h.1.1.2.2, trivial⟩,
                  fun β => by kernel_rfl, fun β => by kernel_rfl, fun β => by kernel_rfl, by kernel_rfl, (fun w1 w2 h hb => ⟨hkS w1 w2 h.1 hb, cell_keep hb (by show eb < _; omega) h.2⟩), by rw [drew_size]; simp, fun _ _ h => (by cases h), fun _ _ _ _ h => (by cases h)⟩
                ⟨⟨s0, s1⟩, s2⟩ rfl (fun _ _ h => (by cases h)) (fun _ => Free.from_ 14 [.int .i64 (i : Int), .bool true, .bool true, .slice (some ⟨eb, eo, none⟩) l.length c, .int .i64 (i : Int), .int .i64 (j : Int), .pointer (some ⟨eb, eo + j * 3, none⟩), .pointer (some ⟨eb, eo + j * 3, none⟩), .string pk, .pointer (some ⟨wr.heap.size, 0, none⟩), .string k, .bool false, .bool false, .bool false, (Sp.mk lo hi all).v, .pointer (some ⟨wr.heap.size, 0, none⟩), .string k, .bool true, .bool false, .bool false, .bool false, .pointer (some ⟨wr.heap.size, 2, none⟩), .bool false, .bool false, undef, undef, undef, .bool false, .bool false]) (fun β => by kernel_rfl) ?_
              intro β w4 _ hz4 b4 _ _ _
              rw [drew_size] at hz4
              simp at hz4
              have B4 : Below w.heap.size w w4 := ((hb.alloc (by omega) _).drew).trans (b4.mono (by omega))
              have HB4 := Lib.hid B4
              have HA4 := Lib.hid (At.keep s1 b4 (by omega))
              clear B4 b4 s0 s1 hhk c1 c2 c3 hkS s2
              rw [Free.puts_from _ _ _ (Nat.le_of_ble_eq_true rfl)]
              simp only [List.take_succ_cons, List.take_zero, List.drop_succ_cons, List.drop_zero, List.cons_append, List.nil_append, List.length_cons, List.length_nil, Nat.reduceAdd]
              go_wp2
              go_roundw
              case rel => exact ⟨i + 1, by omega, by go_num, Lib.hid (fun j' hj => by
                by_cases e : j' = i
                · subst e; rw [HOk.out, HPk]; simp [hlt, hhas]
                · exact H1.out j' (by omega)), Lib.hid ⟨HB4.out, HA4.out, by omega⟩⟩
              case measure => simp [intOf]; omega
            | true =>
              by_cases hv : v.size = 0
              · have hv2 : decide (v ≠ ⟨#[]⟩) = false := decide_eq_false (by rw [empty_text hv]; simp)
                refine Free.region_puts (S := fun w' => (EnAt w' wr.heap.size 0 ⟨k, v, true⟩ ∧ At w.heap.size 0 ⟨lo, hi, all⟩ w') ∧ w'.cell? ⟨eb, eo + j * 3, none⟩ = some (.string pk)) (B0 := wr.heap.size + 1) (w0 := _) (om := fun _ => 0) (olds := [])
                  (tab := [(1, .cmp .gtr 3 (.int .i64 (i : Int)) (.int .i64 0) (.bool true)),
                    (5, .cmp .sub 3 (.int .i64 (i : Int)) (.int .i64 1) (.int .i64 (j : Int))),
                    (6, .gen [.slice (some ⟨eb, eo, none⟩) l.length c, .int .i64 (j : Int)] (.pointer (some ⟨eb, eo + j * 3, none⟩))),
                    (8, .load 9 ⟨eb, eo + j * 3, none⟩ (.string pk)),
                    (10, .load 9 ⟨wr.heap.size, 0, none⟩ (.string k)),
                    (11, .cmp .geq 9 (.string pk) (.string k) (.bool false)),
                    (14, .load 46 ⟨w.heap.size, 0, none⟩ ((Sp.mk lo hi all).v)),
                    (16, .load 9 ⟨wr.heap.size, 0, none⟩ (.string k)),
                    (17, .call 58 [(Sp.mk lo hi all).v, .string k] (.bool true)),
                    (22, .load 4 ⟨wr.heap.size, 2, none⟩ (.bool true)),
                    (25, .load 9 ⟨wr.heap.size, 1, none⟩ (.string v)),
                    (26, .cmp .neq 9 (.string v) (.string ⟨#[]⟩) (.bool false))])
                  (by kernel_rfl) ⟨by kernel_rfl, ⟨fun xo yo w => cmp_gtr3 xo yo w g0, fun xo yo w => cmp_sub3 xo yo w (by omega) (by omega) (by omega), gen_at _ rfl rfl (fun w => at_38 _ _ _ _ _ (by omega) w), fun _ h => load_9 h.2, fun _ h => load_9 h.1.1.1, fun xo yo w => cmp_geq9 xo yo w (by rw [hlt]; rfl), fun _ h => load_28 h.1.2, fun _ h => load_9 h.1.1.1, ⟨enter_40, fun w _ => hhk w⟩, fun _ h => load_4 h.1.1.2.2, fun _ h => load_9 h.1.1.2.1, fun xo yo w => cmp_neq9 xo yo w hv2, trivial⟩,
                    fun β => by kernel_rfl, fun β => by kernel_rfl, fun β => by kernel_rfl, by kernel_rfl, (fun w1 w2 h hb => ⟨hkS w1 w2 h.1 hb, cell_keep hb (by show eb < _; omega) h.2⟩), by rw [drew_size]; simp, fun _ _ h => (by cases h), fun _ _ _ _ h => (by cases h)⟩
                  ⟨⟨s0, s1⟩, s2⟩ rfl (fun _ _ h => (by cases h)) (fun _ => Free.from_ 14 [.int .i64 (i : Int), .bool true, .bool true, .slice (some ⟨eb, eo, none⟩) l.length c, .int .i64 (i : Int), .int .i64 (j : Int), .pointer (some ⟨eb, eo + j * 3, none⟩), .pointer (some ⟨eb, eo + j * 3, none⟩), .string pk, .pointer (some ⟨wr.heap.size, 0, none⟩), .string k, .bool false, .bool false, .bool false, (Sp.mk lo hi all).v, .pointer (some ⟨wr.heap.size, 0, none⟩), .string k, .bool true, .bool false, .bool false, .bool false, .pointer (some ⟨wr.heap.size, 2, none⟩), .bool true, .bool true, .pointer (some ⟨wr.heap.size, 1, none⟩), .string v, .bool false, .bool false, .bool false]) (fun β => by kernel_rfl) ?_
                intro β w4 _ hz4 b4 _ _ _
                rw [drew_size] at hz4
                simp at hz4
                have B4 : Below w.heap.size w w4 := ((hb.alloc (by omega) _).drew).trans (b4.mono (by omega))
                have HB4 := Lib.hid B4
                have HA4 := Lib.hid (At.keep s1 b4 (by omega))
                clear B4 b4 s0 s1 hhk c1 c2 c3 hkS s2
                rw [Free.puts_from _ _ _ (Nat.le_of_ble_eq_true rfl)]
                simp only [List.take_succ_cons, List.take_zero, List.drop_succ_cons, List.drop_zero, List.cons_append, List.nil_append, List.length_cons, List.length_nil, Nat.reduceAdd]
                go_wp2
                go_roundw
                case rel => exact ⟨i + 1, by omega, by go_num, Lib.hid (fun j' hj => by
                  by_cases e : j' = i
                  · subst e; rw [HOk.out, HPk]; simp [hlt, hhas, hv]
                  · exact H1.out j' (by omega)), Lib.hid ⟨HB4.out, HA4.out, by omega⟩⟩
                case measure => simp [intOf]; omega
              · have hv2 : decide (v ≠ ⟨#[]⟩) = true := decide_eq_true (full_text hv)
                refine Free.region_puts (S := fun w' => (EnAt w' wr.heap.size 0 ⟨k, v, true⟩ ∧ At w.heap.size 0 ⟨lo, hi, all⟩ w') ∧ w'.cell? ⟨eb, eo + j * 3, none⟩ = some (.string pk)) (B0 := wr.heap.size + 1) (w0 := _) (om := fun _ => 0) (olds := [])
                  (tab := [(1, .cmp .gtr 3 (.int .i64 (i : Int)) (.int .i64 0) (.bool true)),
                    (5, .cmp .sub 3 (.int .i64 (i : Int)) (.int .i64 1) (.int .i64 (j : Int))),
                    (6, .gen [.slice (some ⟨eb, eo, none⟩) l.length c, .int .i64 (j : Int)] (.pointer (some ⟨eb, eo + j * 3, none⟩))),
                    (8, .load 9 ⟨eb, eo + j * 3, none⟩ (.string pk)),
                    (10, .load 9 ⟨wr.heap.size, 0, none⟩ (.string k)),
                    (11, .cmp .geq 9 (.string pk) (.string k) (.bool false)),
                    (14, .load 46 ⟨w.heap.size, 0, none⟩ ((Sp.mk lo hi all).v)),
                    (16, .load 9 ⟨wr.heap.size, 0, none⟩ (.string k)),
                    (17, .call 58 [(Sp.mk lo hi all).v, .string k] (.bool true)),
                    (22, .load 4 ⟨wr.heap.size, 2, none⟩ (.bool true)),
                    (25, .load 9 ⟨wr.heap.size, 1, none⟩ (.string v)),
                    (26, .cmp .neq 9 (.string v) (.string ⟨#[]⟩) (.bool true))])
                  (by kernel_rfl) ⟨by kernel_rfl, ⟨fun xo yo w => cmp_gtr3 xo yo w g0, fun xo yo w => cmp_sub3 xo yo w (by omega) (by omega) (by omega), gen_at _ rfl rfl (fun w => at_38 _ _ _ _ _ (by omega) w), fun _ h => load_9 h.2, fun _ h => load_9 h.1.1.1, fun xo yo w => cmp_geq9 xo yo w (by rw [hlt]; rfl), fun _ h => load_28 h.1.2, fun _ h => load_9 h.1.1.1, ⟨enter_40, fun w _ => hhk w⟩, fun _ h => load_4 h.1.1.2.2, fun _ h => load_9 h.1.1.2.1, fun xo yo w => cmp_neq9 xo yo w hv2, trivial⟩,
                    fun β => by kernel_rfl, fun β => by kernel_rfl, fun β => by kernel_rfl, by kernel_rfl, (fun w1 w2 h hb => ⟨hkS w1 w2 h.1 hb, cell_keep hb (by show eb < _; omega) h.2⟩), by rw [drew_size]; simp, fun _ _ h => (by cases h), fun _ _ _ _ h => (by cases h)⟩
                  ⟨⟨s0, s1⟩, s2⟩ rfl (fun _ _ h => (by cases h)) (fun _ => Free.from_ 14 [.int .i64 (i : Int), .bool true, .bool true, .slice (some ⟨eb, eo, none⟩) l.length c, .int .i64 (i : Int), .int .i64 (j : Int), .pointer (some ⟨eb, eo + j * 3, none⟩), .pointer (some ⟨eb, eo + j * 3, none⟩), .string pk, .pointer (some ⟨wr.heap.size, 0, none⟩), .string k, .bool false, .bool false, .bool false, (Sp.mk lo hi all).v, .pointer (some ⟨wr.heap.size, 0, none⟩), .string k, .bool true, .bool false, .bool false, .bool false, .pointer (some ⟨wr.heap.size, 2, none⟩), .bool true, .bool true, .pointer (some ⟨wr.heap.size, 1, none⟩), .string v, .bool true, .bool true, .bool true]) (fun β => by kernel_rfl) ?_
                intro β w4 _ hz4 b4 _ _ _
                rw [drew_size] at hz4
                simp at hz4
                have B4 : Below w.heap.size w w4 := ((hb.alloc (by omega) _).drew).trans (b4.mono (by omega))
                have HB4 := Lib.hid B4
                clear B4 b4 s0 s1 hhk c1 c2 c3 hkS s2
                rw [Free.puts_from _ _ _ (Nat.le_of_ble_eq_true rfl)]
                simp only [List.take_succ_cons, List.take_zero, List.drop_succ_cons, List.drop_zero, List.cons_append, List.nil_append, List.length_cons, List.length_nil, Nat.reduceAdd]
                go_wp2
                go_ret
                exact ⟨ret_any (HNi.out (by rw [HOk.out, HPk]; simp [hlt, hhas, hv])).symm, HB4.out⟩
    · have i1 : ¬ (i : Int) < (l.length : Int) := by omega
      have HX := Lib.hid (HY.out fun j hj => H1.out j (by omega))
      go_wp2
      go_ret
      exact ⟨ret_any HX.out.symm, hb⟩
end Go.Proofs.Ytjlifkhpohfiaaa
