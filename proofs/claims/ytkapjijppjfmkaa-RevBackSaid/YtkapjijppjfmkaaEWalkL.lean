/- What the reference's With makes of any entries and one more: a row of the call's own. Conditions: at most 1000000 entries, keys of at most 1000000 bytes. -/
import Derived.Test.YtkapjijppjfmkaaEWalkK
import Derived.Test.YtkapjijppjfmkaaEWalkF
namespace Go.Proofs.Ytkapjijppjfmkaa
open Go.RowKit Go.Op
set_option maxRecDepth 100000

theorem OwnE.mono {T : Nat} {w : World} {base base' : Nat} {v : Value} {l : List En} (h : OwnE T w base v l) (hb : base' ≤ base) : OwnE T w base' v l := by
  obtain ⟨h1, h2⟩ := h
  refine ⟨h1, ?_⟩
  rcases h2 with h2 | ⟨g, cap, cur, rfl, b, c, d⟩
  · exact .inl h2
  · exact .inr ⟨g, cap, cur, rfl, by omega, c, d⟩
def twL (l : List En) (x : En) : Nat := (l.takeWhile (before x.key)).length
theorem tw_le (l : List En) (x : En) : twL l x ≤ l.length := (List.takeWhile_sublist _).length_le
theorem tw_take : ∀ (l : List En) (x : En), l.takeWhile (before x.key) = l.take (twL l x) ∧ l.dropWhile (before x.key) = l.drop (twL l x)
  | [], _ => ⟨rfl, rfl⟩
  | e :: l, x => by
    have ih := tw_take l x
    unfold twL at ih ⊢
    rw [List.takeWhile_cons, List.dropWhile_cons]
    by_cases h : before x.key e = true
    · rw [if_pos h, if_pos h, List.length_cons, List.take_succ_cons, List.drop_succ_cons]
      exact ⟨by rw [← ih.1], ih.2⟩
    · rw [if_neg h, if_neg h]
      exact ⟨rfl, rfl⟩
theorem tw_before : ∀ {l : List En} {x : En} {i : Nat} (_ : i < twL l x) (hi : i < l.length), lt l[i].key x.key = true
  | e :: l, x, i, h, hi => by
    unfold twL at h
    rw [List.takeWhile_cons] at h
    by_cases he : before x.key e = true
    · rw [if_pos he, List.length_cons] at h
      match i, h, hi with
      | 0, _, _ => exact he
      | i + 1, h, hi => exact tw_before (l := l) (x := x) (i := i) (by unfold twL; omega) (by simpa using hi)
    · rw [if_neg he] at h
      simp at h
theorem tw_stop : ∀ {l : List En} {x : En} (hi : twL l x < l.length), lt (l[twL l x]'hi).key x.key = false
  | e :: l, x, hi => by
    by_cases he : before x.key e = true
    · have e1 : twL (e :: l) x = twL l x + 1 := by unfold twL; rw [List.takeWhile_cons, if_pos he, List.length_cons]
      have hi2 : twL l x < l.length := by rw [e1, List.length_cons] at hi; omega
      have := tw_stop (l := l) (x := x) hi2
      simp only [e1, List.getElem_cons_succ]
      exact this
    · have e1 : twL (e :: l) x = 0 := by unfold twL; rw [List.takeWhile_cons, if_neg he]; rfl
      simp only [e1, List.getElem_cons_zero]
      unfold before at he
      simpa using he
/-- What stands in the row behind i entries. -/
def neK (x : En) (e : En) : Bool := decide (e.key ≠ x.key)
def midL (l : List En) (x : En) (i : Nat) : List En := l.take (twL l x) ++ x :: ((l.take i).drop (twL l x)).filter (neK x)
theorem mid_step {l : List En} {x : En} {i : Nat} (hi : i < l.length) (ht : twL l x ≤ i) : midL l x (i + 1) = if l[i].key = x.key then midL l x i else midL l x i ++ [l[i]] := by
  unfold midL
  rw [List.take_succ_eq_append_getElem hi, List.drop_append_of_le_length (by rw [List.length_take]; omega), List.filter_append, List.filter_cons]
  by_cases h : l[i].key = x.key
  · rw [if_pos h, if_neg (by simp [neK, h])]
    simp
  · rw [if_neg h, if_pos (by simp [neK, h])]
    simp
theorem mid_start (l : List En) (x : En) : midL l x (twL l x) = l.take (twL l x) ++ [x] := by
  unfold midL
  rw [List.drop_eq_nil_of_le (by rw [List.length_take]; omega)]
  rfl
theorem with_mid (l : List En) (x : En) : withL l x = midL l x l.length := by
  unfold withL midL
  rw [(tw_take l x).1, (tw_take l x).2, List.take_length]
  rfl
theorem mid_len {l : List En} {x : En} {i : Nat} : (midL l x i).length ≤ l.length + i + 1 := by
  unfold midL
  rw [List.length_append, List.length_cons, List.length_take]
  have h1 := List.length_filter_le (neK x) ((l.take i).drop (twL l x))
  rw [List.length_drop, List.length_take] at h1
  omega

set_option maxHeartbeats 4000000 in
theorem with_any (a : Option Addr) (l : List En) (c : Nat) (x : En) (w : World) (hl : l.length ≤ 1000000) (hE : Ents w a l) (hk : ∀ e ∈ l, e.key.size ≤ 1000000) (hx : x.key.size ≤ 1000000) :
    Calls Try.prog 47 #[.slice a l.length c, x.v] w fun e w' => ∃ v, e = .returned v ∧ OwnE 62 w' w.heap.size v (withL l x) ∧ Below w.heap.size w w' := by
  have HE := Lib.hid hE
  have HK := Lib.hid hk
  have HT1 := Lib.hid (fun i (h : i < twL l x) (hi : i < l.length) => tw_before h hi)
  have HT2 := Lib.hid (fun h => tw_stop (l := l) (x := x) h)
  have HM := Lib.hid (fun i (hi : i < l.length) (ht : twL l x ≤ i) => mid_step hi ht)
  have HM0 := Lib.hid (mid_start l x)
  have HW := Lib.hid (with_mid l x)
  have HLn := Lib.hid (fun i => mid_len (l := l) (x := x) (i := i))
  have htw := tw_le l x
  have hxk := Lib.hid (rfl : x.key = x.key)
  obtain ⟨M, hM⟩ : ∃ M : Nat → List En, M = midL l x := ⟨_, rfl⟩
  rw [← hM] at HM HM0 HW HLn
  rw [HW.out]
  clear hM HW
  generalize twL l x = t at HT1 HT2 HM HM0 htw
  obtain ⟨xk, xv, xg⟩ := x
  simp only [En.v] at hx ⊢
  have HXA : Hid (EnAt (w.alloc (.cells #[.string xk, .string xv, .bool xg] 62)) w.heap.size 0 ⟨xk, xv, xg⟩) := Lib.hid ⟨by simp [go_sem], by simp [go_sem], by simp [go_sem]⟩
  clear hE hk hxk
  go_enter Try.func47, Try.ntmps47
  go_wp2
  go_loopw [5, 6, 7] (fun ov dv iv wr => ∃ (i : Nat) (d : Bool) (acc : List En), iv = .int .i64 (i : Int) ∧ dv = .bool d ∧ i ≤ l.length ∧ ((d = false ∧ i ≤ t ∧ acc = l.take i) ∨ (d = true ∧ t < i ∧ acc = M i)) ∧ Hid (OwnE 62 wr (w.heap.size + 1) ov acc) ∧ Hid (Below (w.heap.size + 1) (w.alloc (.cells #[.string xk, .string xv, .bool xg] 62)) wr)) (fun _ _ iv _ => l.length - (intOf iv).toNat)
  case atStart => exact ⟨0, false, [], rfl, rfl, by omega, .inl ⟨rfl, by omega, rfl⟩, Lib.hid (OwnE.nil _ _ _), Lib.hid (Below.refl _ _)⟩
  case round =>
    obtain ⟨i, d, acc, rfl, rfl, hil, hcase, HO, HB⟩ := hrel
    have sr := HB.out.size
    simp at sr
    by_cases h1 : i < l.length
    · have i1 : (i : Int) < (l.length : Int) := by omega
      obtain ⟨eb, eo, rfl, heb, hc⟩ := HE.out.at h1
      have hbw : Below w.heap.size w wr := ((Below.refl _ _).alloc (Nat.le_refl _) _).trans (HB.out.mono (by omega))
      have HKeep : Hid (∀ W, Below (w.heap.size + 1) wr W → EnAt W eb (eo + i * 3) l[i] ∧ EnAt W w.heap.size 0 ⟨xk, xv, xg⟩) := Lib.hid (fun W hb => ⟨hc.below (hbw.trans (hb.mono (by omega))) heb, HXA.out.below (HB.out.trans hb) (Nat.lt_succ_self _)⟩)
      have hks := HK.out _ (List.getElem_mem h1)
      have HT1i := Lib.hid (fun h => HT1.out i h h1)
      have HT2i : Hid (i = t → lt l[i].key xk = false) := Lib.hid (fun h => by subst h; exact HT2.out h1)
      have HMi := Lib.hid (fun h => HM.out i h1 h)
      have HTk : Hid (l.take (i + 1) = l.take i ++ [l[i]]) := Lib.hid (List.take_succ_eq_append_getElem h1)
      have hkl : (l.take i).length ≤ i := by rw [List.length_take]; omega
      have hml := HLn.out i
      have HMt : Hid (i = t → l.take i ++ [(⟨xk, xv, xg⟩ : En)] = M i) := Lib.hid (fun h => by subst h; exact HM0.out.symm)
      clear hc hbw
      generalize l[i] = y at HKeep hks HT1i HT2i HMi HTk
      obtain ⟨k, v, gn⟩ := y
      simp only at hks
      have HTlt : Hid (i < t → lt k xk = true) := Lib.hid (fun h => HT1i.out h)
      have HTeq : Hid (i = t → lt k xk = false) := Lib.hid (fun h => HT2i.out h)
      have HMi2 : Hid (t ≤ i → M (i + 1) = if k = xk then M i else M i ++ [⟨k, v, gn⟩]) := Lib.hid (fun h => HMi.out h)
      clear HT1i HT2i HMi
      have hbB : w.heap.size + 1 ≤ wr.heap.size := by omega
      have HOwr := HO
      have HRwr : Hid (Below (w.heap.size + 1) wr wr) := Lib.hid (Below.refl _ _)
      clear HO
      by_cases hkk : k = xk
      · have hnl : lt k xk = false := by rw [hkk]; exact lt_irr _
        have hne : decide (k ≠ xk) = false := by simp [hkk]
        have hti : t ≤ i := by
          rcases Nat.lt_or_ge i t with h | h
          · have := HTlt.out h; rw [hnl] at this; cases this
          · exact h
        have HMn : Hid (M (i + 1) = M i) := Lib.hid (by rw [HMi2.out hti, if_pos hkk])
        clear hkk
        cases d with
        | true =>
          obtain ⟨hti2, hacc⟩ : t < i ∧ acc = M i := by rcases hcase with ⟨h, _⟩ | ⟨_, h1, h2⟩; cases h; exact ⟨h1, h2⟩
          subst hacc
          go_wp2_with fail
          refine Free.region_puts (S := fun w' => EnAt w' eb (eo + i * 3) ⟨k, v, gn⟩ ∧ EnAt w' w.heap.size 0 ⟨xk, xv, xg⟩) (B0 := wr.heap.size) (w0 := wr.drew) (om := fun _ => 0) (olds := [])
            (tab := [])
            (by kernel_rfl) ⟨by kernel_rfl, trivial,
              fun β => by kernel_rfl, fun β => by kernel_rfl, fun β => by kernel_rfl, by kernel_rfl, (fun w1 w2 h hb => ⟨h.1.below hb (by omega), h.2.below hb (by omega)⟩), Nat.le_refl _, fun _ _ h => (by cases h), fun _ _ _ _ h => (by cases h)⟩
            (HKeep.out _ (drew_below HRwr.out)) rfl (fun _ _ h => (by cases h)) (fun _ => Free.from_ 14 [.bool true, .bool false, .bool false, undef, undef, undef, undef, undef, undef, undef, undef, undef, .bool false]) (fun β => by kernel_rfl) ?_
          intro β w4 _ hz b _ _ _
          rw [drew_size] at hz
          have HOw4 := Lib.hid (HOwr.out.below (Below.trans (drew_below (Below.refl _ wr)) b))
          have HRw4 := Lib.hid (HRwr.out.trans ((Below.trans (drew_below (Below.refl _ wr)) b).mono (by omega)))
          clear b HOwr HRwr
          rw [Free.puts_from _ _ _ (Nat.le_of_ble_eq_true rfl)]
          simp only [List.take_succ_cons, List.take_zero, List.drop_succ_cons, List.drop_zero, List.cons_append, List.nil_append, List.length_cons, List.length_nil, Nat.reduceAdd]
          go_wp2_with fail
          refine Free.region_puts (S := fun w' => EnAt w' eb (eo + i * 3) ⟨k, v, gn⟩ ∧ EnAt w' w.heap.size 0 ⟨xk, xv, xg⟩) (B0 := w4.heap.size) (w0 := w4.drew) (om := fun _ => 0) (olds := [])
            (tab := [(2, .gen [.slice (some ⟨eb, eo, none⟩) l.length c, .int .i64 (i : Int)] (.pointer (some ⟨eb, eo + i * 3, none⟩))),
              (4, .load 9 ⟨eb, eo + i * 3, none⟩ (.string k)),
              (6, .load 9 ⟨w.heap.size, 0, none⟩ (.string xk)),
              (7, .cmp .neq 9 (.string k) (.string xk) (.bool false))])
            (by kernel_rfl) ⟨by kernel_rfl, ⟨gen_at _ rfl rfl (fun w => at_24 _ _ _ _ _ (by omega) w), fun _ h => load_9 h.1.1, fun _ h => load_9 h.2.1, fun xo yo w => cmp_neq9 xo yo w hne, trivial⟩,
              fun β => by kernel_rfl, fun β => by kernel_rfl, fun β => by kernel_rfl, by kernel_rfl, (fun w1 w2 h hb => ⟨h.1.below hb (by omega), h.2.below hb (by omega)⟩), Nat.le_refl _, fun _ _ h => (by cases h), fun _ _ _ _ h => (by cases h)⟩
            (HKeep.out _ (drew_below HRw4.out)) rfl (fun _ _ h => (by cases h)) (fun _ => Free.from_ 31 [.slice (some ⟨eb, eo, none⟩) l.length c, .int .i64 (i : Int), .pointer (some ⟨eb, eo + i * 3, none⟩), .pointer (some ⟨eb, eo + i * 3, none⟩), .string k, .pointer (some ⟨w.heap.size, 0, none⟩), .string xk, .bool false]) (fun β => by kernel_rfl) ?_
          intro β w6 _ hz b _ _ _
          rw [drew_size] at hz
          have HOw6 := Lib.hid (HOw4.out.below (Below.trans (drew_below (Below.refl _ w4)) b))
          have HRw6 := Lib.hid (HRw4.out.trans ((Below.trans (drew_below (Below.refl _ w4)) b).mono (by omega)))
          clear b HOw4 HRw4
          rw [Free.puts_from _ _ _ (Nat.le_of_ble_eq_true rfl)]
          simp only [List.take_succ_cons, List.take_zero, List.drop_succ_cons, List.drop_zero, List.cons_append, List.nil_append, List.length_cons, List.length_nil, Nat.reduceAdd]
          go_wp2
          go_roundw
          case rel => exact ⟨i + 1, true, M i, by go_num, rfl, by omega, .inr ⟨rfl, by omega, HMn.out.symm⟩, HOw6, Lib.hid (HB.out.trans HRw6.out)⟩
          case measure => simp [intOf]; omega
        | false =>
          obtain ⟨hti2, hacc⟩ : i = t ∧ acc = l.take i := by rcases hcase with ⟨_, h1, h2⟩ | ⟨h, _⟩; exact ⟨by omega, h2⟩; cases h
          subst hacc
          have HTI := Lib.hid hti2
          clear hti2
          have hls := fun w => less_any k xk hks hx w
          rw [hnl] at hls
          go_wp2_with fail
          refine Free.region_puts (S := fun w' => EnAt w' eb (eo + i * 3) ⟨k, v, gn⟩ ∧ EnAt w' w.heap.size 0 ⟨xk, xv, xg⟩) (B0 := wr.heap.size) (w0 := wr.drew) (om := fun _ => 0) (olds := [])
            (tab := [(5, .gen [.slice (some ⟨eb, eo, none⟩) l.length c, .int .i64 (i : Int)] (.pointer (some ⟨eb, eo + i * 3, none⟩))),
              (7, .load 9 ⟨eb, eo + i * 3, none⟩ (.string k)),
              (9, .load 9 ⟨w.heap.size, 0, none⟩ (.string xk)),
              (10, .call 45 [.string k, .string xk] (.bool false))])
            (by kernel_rfl) ⟨by kernel_rfl, ⟨gen_at _ rfl rfl (fun w => at_24 _ _ _ _ _ (by omega) w), fun _ h => load_9 h.1.1, fun _ h => load_9 h.2.1, ⟨enter_45, fun w _ => hls w⟩, trivial⟩,
              fun β => by kernel_rfl, fun β => by kernel_rfl, fun β => by kernel_rfl, by kernel_rfl, (fun w1 w2 h hb => ⟨h.1.below hb (by omega), h.2.below hb (by omega)⟩), Nat.le_refl _, fun _ _ h => (by cases h), fun _ _ _ _ h => (by cases h)⟩
            (HKeep.out _ (drew_below HRwr.out)) rfl (fun _ _ h => (by cases h)) (fun _ => Free.from_ 14 [.bool false, .bool true, .bool true, .slice (some ⟨eb, eo, none⟩) l.length c, .int .i64 (i : Int), .pointer (some ⟨eb, eo + i * 3, none⟩), .pointer (some ⟨eb, eo + i * 3, none⟩), .string k, .pointer (some ⟨w.heap.size, 0, none⟩), .string xk, .bool false, .bool true, .bool true]) (fun β => by kernel_rfl) ?_
          intro β w4 _ hz b _ _ _
          rw [drew_size] at hz
          have HOw4 := Lib.hid (HOwr.out.below (Below.trans (drew_below (Below.refl _ wr)) b))
          have HRw4 := Lib.hid (HRwr.out.trans ((Below.trans (drew_below (Below.refl _ wr)) b).mono (by omega)))
          clear b HOwr HRwr
          rw [Free.puts_from _ _ _ (Nat.le_of_ble_eq_true rfl)]
          simp only [List.take_succ_cons, List.take_zero, List.drop_succ_cons, List.drop_zero, List.cons_append, List.nil_append, List.length_cons, List.length_nil, Nat.reduceAdd]
          obtain ⟨⟨c1, c2, c3⟩, ⟨x1, x2, x3⟩⟩ := HKeep.out _ HRw4.out
          simp only [Nat.zero_add] at c1 c2 c3 x1 x2 x3
          go_wp2_with (at_builtin; refine wpList_append_ents rfl 24 62 (.inr ⟨rfl, rfl⟩) (.tmp 27) (.tmp 29) rfl (w.heap.size + 1) u5 (l.take i) [⟨xk, xv, xg⟩] rfl (HOw4.out.alloc _) ⟨w4.heap.size, 0, none⟩ 1 rfl (cells_new w4 ⟨xk, xv, xg⟩ 62) (by simp; omega) (by simp; omega) ?_; intro v5 w5 hown hgrow _)
          have HOw5 := Lib.hid hown
          have HRw5 := Lib.hid (below_grown (HRw4.out.alloc (by omega) _) (HOw4.out.alloc _) hgrow (by simp; omega))
          have hzw5 := hgrow.size
          simp at hzw5
          clear hown hgrow c1 c2 c3 x1 x2 x3 HOw4 HRw4
          go_wp2_with fail
          refine Free.region_puts (S := fun w' => EnAt w' eb (eo + i * 3) ⟨k, v, gn⟩ ∧ EnAt w' w.heap.size 0 ⟨xk, xv, xg⟩) (B0 := w5.heap.size) (w0 := w5.drew) (om := fun _ => 0) (olds := [])
            (tab := [(2, .gen [.slice (some ⟨eb, eo, none⟩) l.length c, .int .i64 (i : Int)] (.pointer (some ⟨eb, eo + i * 3, none⟩))),
              (4, .load 9 ⟨eb, eo + i * 3, none⟩ (.string k)),
              (6, .load 9 ⟨w.heap.size, 0, none⟩ (.string xk)),
              (7, .cmp .neq 9 (.string k) (.string xk) (.bool false))])
            (by kernel_rfl) ⟨by kernel_rfl, ⟨gen_at _ rfl rfl (fun w => at_24 _ _ _ _ _ (by omega) w), fun _ h => load_9 h.1.1, fun _ h => load_9 h.2.1, fun xo yo w => cmp_neq9 xo yo w hne, trivial⟩,
              fun β => by kernel_rfl, fun β => by kernel_rfl, fun β => by kernel_rfl, by kernel_rfl, (fun w1 w2 h hb => ⟨h.1.below hb (by omega), h.2.below hb (by omega)⟩), Nat.le_refl _, fun _ _ h => (by cases h), fun _ _ _ _ h => (by cases h)⟩
            (HKeep.out _ (drew_below HRw5.out)) rfl (fun _ _ h => (by cases h)) (fun _ => Free.from_ 31 [.slice (some ⟨eb, eo, none⟩) l.length c, .int .i64 (i : Int), .pointer (some ⟨eb, eo + i * 3, none⟩), .pointer (some ⟨eb, eo + i * 3, none⟩), .string k, .pointer (some ⟨w.heap.size, 0, none⟩), .string xk, .bool false]) (fun β => by kernel_rfl) ?_
          intro β w6 _ hz b _ _ _
          rw [drew_size] at hz
          have HOw6 := Lib.hid (HOw5.out.below (Below.trans (drew_below (Below.refl _ w5)) b))
          have HRw6 := Lib.hid (HRw5.out.trans ((Below.trans (drew_below (Below.refl _ w5)) b).mono (by omega)))
          clear b HOw5 HRw5
          rw [Free.puts_from _ _ _ (Nat.le_of_ble_eq_true rfl)]
          simp only [List.take_succ_cons, List.take_zero, List.drop_succ_cons, List.drop_zero, List.cons_append, List.nil_append, List.length_cons, List.length_nil, Nat.reduceAdd]
          go_wp2
          go_roundw
          case rel => exact ⟨i + 1, true, l.take i ++ [⟨xk, xv, xg⟩], by go_num, rfl, by omega, .inr ⟨rfl, by have := HTI.out; omega, by rw [HMn.out, ← HMt.out HTI.out]⟩, HOw6, Lib.hid (HB.out.trans HRw6.out)⟩
          case measure => simp [intOf]; omega
      · have hne : decide (k ≠ xk) = true := by simp [hkk]
        have HMn : Hid (t ≤ i → M (i + 1) = M i ++ [⟨k, v, gn⟩]) := Lib.hid (fun h => by rw [HMi2.out h, if_neg hkk])
        clear hkk
        cases d with
        | true =>
          obtain ⟨hti2, hacc⟩ : t < i ∧ acc = M i := by rcases hcase with ⟨h, _⟩ | ⟨_, h1, h2⟩; cases h; exact ⟨h1, h2⟩
          subst hacc
          replace HMn := Lib.hid (HMn.out (by omega))
          go_wp2_with fail
          refine Free.region_puts (S := fun w' => EnAt w' eb (eo + i * 3) ⟨k, v, gn⟩ ∧ EnAt w' w.heap.size 0 ⟨xk, xv, xg⟩) (B0 := wr.heap.size) (w0 := wr.drew) (om := fun _ => 0) (olds := [])
            (tab := [])
            (by kernel_rfl) ⟨by kernel_rfl, trivial,
              fun β => by kernel_rfl, fun β => by kernel_rfl, fun β => by kernel_rfl, by kernel_rfl, (fun w1 w2 h hb => ⟨h.1.below hb (by omega), h.2.below hb (by omega)⟩), Nat.le_refl _, fun _ _ h => (by cases h), fun _ _ _ _ h => (by cases h)⟩
            (HKeep.out _ (drew_below HRwr.out)) rfl (fun _ _ h => (by cases h)) (fun _ => Free.from_ 14 [.bool true, .bool false, .bool false, undef, undef, undef, undef, undef, undef, undef, undef, undef, .bool false]) (fun β => by kernel_rfl) ?_
          intro β w4 _ hz b _ _ _
          rw [drew_size] at hz
          have HOw4 := Lib.hid (HOwr.out.below (Below.trans (drew_below (Below.refl _ wr)) b))
          have HRw4 := Lib.hid (HRwr.out.trans ((Below.trans (drew_below (Below.refl _ wr)) b).mono (by omega)))
          clear b HOwr HRwr
          rw [Free.puts_from _ _ _ (Nat.le_of_ble_eq_true rfl)]
          simp only [List.take_succ_cons, List.take_zero, List.drop_succ_cons, List.drop_zero, List.cons_append, List.nil_append, List.length_cons, List.length_nil, Nat.reduceAdd]
          go_wp2_with fail
          refine Free.region_puts (S := fun w' => EnAt w' eb (eo + i * 3) ⟨k, v, gn⟩ ∧ EnAt w' w.heap.size 0 ⟨xk, xv, xg⟩) (B0 := w4.heap.size) (w0 := w4.drew) (om := fun _ => 0) (olds := [])
            (tab := [(2, .gen [.slice (some ⟨eb, eo, none⟩) l.length c, .int .i64 (i : Int)] (.pointer (some ⟨eb, eo + i * 3, none⟩))),
              (4, .load 9 ⟨eb, eo + i * 3, none⟩ (.string k)),
              (6, .load 9 ⟨w.heap.size, 0, none⟩ (.string xk)),
              (7, .cmp .neq 9 (.string k) (.string xk) (.bool true))])
            (by kernel_rfl) ⟨by kernel_rfl, ⟨gen_at _ rfl rfl (fun w => at_24 _ _ _ _ _ (by omega) w), fun _ h => load_9 h.1.1, fun _ h => load_9 h.2.1, fun xo yo w => cmp_neq9 xo yo w hne, trivial⟩,
              fun β => by kernel_rfl, fun β => by kernel_rfl, fun β => by kernel_rfl, by kernel_rfl, (fun w1 w2 h hb => ⟨h.1.below hb (by omega), h.2.below hb (by omega)⟩), Nat.le_refl _, fun _ _ h => (by cases h), fun _ _ _ _ h => (by cases h)⟩
            (HKeep.out _ (drew_below HRw4.out)) rfl (fun _ _ h => (by cases h)) (fun _ => Free.from_ 31 [.slice (some ⟨eb, eo, none⟩) l.length c, .int .i64 (i : Int), .pointer (some ⟨eb, eo + i * 3, none⟩), .pointer (some ⟨eb, eo + i * 3, none⟩), .string k, .pointer (some ⟨w.heap.size, 0, none⟩), .string xk, .bool true]) (fun β => by kernel_rfl) ?_
          intro β w6 _ hz b _ _ _
          rw [drew_size] at hz
          have HOw6 := Lib.hid (HOw4.out.below (Below.trans (drew_below (Below.refl _ w4)) b))
          have HRw6 := Lib.hid (HRw4.out.trans ((Below.trans (drew_below (Below.refl _ w4)) b).mono (by omega)))
          clear b HOw4 HRw4
          rw [Free.puts_from _ _ _ (Nat.le_of_ble_eq_true rfl)]
          simp only [List.take_succ_cons, List.take_zero, List.drop_succ_cons, List.drop_zero, List.cons_append, List.nil_append, List.length_cons, List.length_nil, Nat.reduceAdd]
          obtain ⟨⟨c1, c2, c3⟩, ⟨x1, x2, x3⟩⟩ := HKeep.out _ HRw6.out
          simp only [Nat.zero_add] at c1 c2 c3 x1 x2 x3
          go_wp2_with (at_builtin; refine wpList_append_ents rfl 24 62 (.inr ⟨rfl, rfl⟩) (.tmp 39) (.tmp 44) rfl (w.heap.size + 1) u5 (M i) [⟨k, v, gn⟩] rfl (HOw6.out.alloc _) ⟨w6.heap.size, 0, none⟩ 1 rfl (cells_new w6 ⟨k, v, gn⟩ 62) (by simp; omega) (by simp; omega) ?_; intro v7 w7 hown hgrow _)
          have HOw7 := Lib.hid hown
          have HRw7 := Lib.hid (below_grown (HRw6.out.alloc (by omega) _) (HOw6.out.alloc _) hgrow (by simp; omega))
          have hzw7 := hgrow.size
          simp at hzw7
          clear hown hgrow c1 c2 c3 x1 x2 x3 HOw6 HRw6
          go_wp2
          go_roundw
          case rel => exact ⟨i + 1, true, M i ++ [⟨k, v, gn⟩], by go_num, rfl, by omega, .inr ⟨rfl, by omega, HMn.out.symm⟩, HOw7, Lib.hid (HB.out.trans HRw7.out)⟩
          case measure => simp [intOf]; omega
        | false =>
          obtain ⟨hti2, hacc⟩ : i ≤ t ∧ acc = l.take i := by rcases hcase with ⟨_, h1, h2⟩ | ⟨h, _⟩; exact ⟨h1, h2⟩; cases h
          subst hacc
          have hls := fun w => less_any k xk hks hx w
          cases hlt : lt k xk with
          | true =>
            have hti3 : i < t := by
              rcases Nat.lt_or_ge i t with h | h
              · exact h
              · have := HTeq.out (by omega); rw [hlt] at this; cases this
            rw [hlt] at hls
            go_wp2_with fail
            refine Free.region_puts (S := fun w' => EnAt w' eb (eo + i * 3) ⟨k, v, gn⟩ ∧ EnAt w' w.heap.size 0 ⟨xk, xv, xg⟩) (B0 := wr.heap.size) (w0 := wr.drew) (om := fun _ => 0) (olds := [])
              (tab := [(5, .gen [.slice (some ⟨eb, eo, none⟩) l.length c, .int .i64 (i : Int)] (.pointer (some ⟨eb, eo + i * 3, none⟩))),
                (7, .load 9 ⟨eb, eo + i * 3, none⟩ (.string k)),
                (9, .load 9 ⟨w.heap.size, 0, none⟩ (.string xk)),
                (10, .call 45 [.string k, .string xk] (.bool true))])
              (by kernel_rfl) ⟨by kernel_rfl, ⟨gen_at _ rfl rfl (fun w => at_24 _ _ _ _ _ (by omega) w), fun _ h => load_9 h.1.1, fun _ h => load_9 h.2.1, ⟨enter_45, fun w _ => hls w⟩, trivial⟩,
                fun β => by kernel_rfl, fun β => by kernel_rfl, fun β => by kernel_rfl, by kernel_rfl, (fun w1 w2 h hb => ⟨h.1.below hb (by omega), h.2.below hb (by omega)⟩), Nat.le_refl _, fun _ _ h => (by cases h), fun _ _ _ _ h => (by cases h)⟩
              (HKeep.out _ (drew_below HRwr.out)) rfl (fun _ _ h => (by cases h)) (fun _ => Free.from_ 14 [.bool false, .bool true, .bool true, .slice (some ⟨eb, eo, none⟩) l.length c, .int .i64 (i : Int), .pointer (some ⟨eb, eo + i * 3, none⟩), .pointer (some ⟨eb, eo + i * 3, none⟩), .string k, .pointer (some ⟨w.heap.size, 0, none⟩), .string xk, .bool true, .bool false, .bool false]) (fun β => by kernel_rfl) ?_
            intro β w4 _ hz b _ _ _
            rw [drew_size] at hz
            have HOw4 := Lib.hid (HOwr.out.below (Below.trans (drew_below (Below.refl _ wr)) b))
            have HRw4 := Lib.hid (HRwr.out.trans ((Below.trans (drew_below (Below.refl _ wr)) b).mono (by omega)))
            clear b HOwr HRwr
            rw [Free.puts_from _ _ _ (Nat.le_of_ble_eq_true rfl)]
            simp only [List.take_succ_cons, List.take_zero, List.drop_succ_cons, List.drop_zero, List.cons_append, List.nil_append, List.length_cons, List.length_nil, Nat.reduceAdd]
            go_wp2_with fail
            refine Free.region_puts (S := fun w' => EnAt w' eb (eo + i * 3) ⟨k, v, gn⟩ ∧ EnAt w' w.heap.size 0 ⟨xk, xv, xg⟩) (B0 := w4.heap.size) (w0 := w4.drew) (om := fun _ => 0) (olds := [])
              (tab := [(2, .gen [.slice (some ⟨eb, eo, none⟩) l.length c, .int .i64 (i : Int)] (.pointer (some ⟨eb, eo + i * 3, none⟩))),
                (4, .load 9 ⟨eb, eo + i * 3, none⟩ (.string k)),
                (6, .load 9 ⟨w.heap.size, 0, none⟩ (.string xk)),
                (7, .cmp .neq 9 (.string k) (.string xk) (.bool true))])
              (by kernel_rfl) ⟨by kernel_rfl, ⟨gen_at _ rfl rfl (fun w => at_24 _ _ _ _ _ (by omega) w), fun _ h => load_9 h.1.1, fun _ h => load_9 h.2.1, fun xo yo w => cmp_neq9 xo yo w hne, trivial⟩,
                fun β => by kernel_rfl, fun β => by kernel_rfl, fun β => by kernel_rfl, by kernel_rfl, (fun w1 w2 h hb => ⟨h.1.below hb (by omega), h.2.below hb (by omega)⟩), Nat.le_refl _, fun _ _ h => (by cases h), fun _ _ _ _ h => (by cases h)⟩
              (HKeep.out _ (drew_below HRw4.out)) rfl (fun _ _ h => (by cases h)) (fun _ => Free.from_ 31 [.slice (some ⟨eb, eo, none⟩) l.length c, .int .i64 (i : Int), .pointer (some ⟨eb, eo + i * 3, none⟩), .pointer (some ⟨eb, eo + i * 3, none⟩), .string k, .pointer (some ⟨w.heap.size, 0, none⟩), .string xk, .bool true]) (fun β => by kernel_rfl) ?_
            intro β w6 _ hz b _ _ _
            rw [drew_size] at hz
            have HOw6 := Lib.hid (HOw4.out.below (Below.trans (drew_below (Below.refl _ w4)) b))
            have HRw6 := Lib.hid (HRw4.out.trans ((Below.trans (drew_below (Below.refl _ w4)) b).mono (by omega)))
            clear b HOw4 HRw4
            rw [Free.puts_from _ _ _ (Nat.le_of_ble_eq_true rfl)]
            simp only [List.take_succ_cons, List.take_zero, List.drop_succ_cons, List.drop_zero, List.cons_append, List.nil_append, List.length_cons, List.length_nil, Nat.reduceAdd]
            obtain ⟨⟨c1, c2, c3⟩, ⟨x1, x2, x3⟩⟩ := HKeep.out _ HRw6.out
            simp only [Nat.zero_add] at c1 c2 c3 x1 x2 x3
            go_wp2_with (at_builtin; refine wpList_append_ents rfl 24 62 (.inr ⟨rfl, rfl⟩) (.tmp 39) (.tmp 44) rfl (w.heap.size + 1) u5 (l.take i) [⟨k, v, gn⟩] rfl (HOw6.out.alloc _) ⟨w6.heap.size, 0, none⟩ 1 rfl (cells_new w6 ⟨k, v, gn⟩ 62) (by simp; omega) (by simp; omega) ?_; intro v7 w7 hown hgrow _)
            have HOw7 := Lib.hid hown
            have HRw7 := Lib.hid (below_grown (HRw6.out.alloc (by omega) _) (HOw6.out.alloc _) hgrow (by simp; omega))
            have hzw7 := hgrow.size
            simp at hzw7
            clear hown hgrow c1 c2 c3 x1 x2 x3 HOw6 HRw6
            go_wp2
            go_roundw
            case rel => exact ⟨i + 1, false, l.take i ++ [⟨k, v, gn⟩], by go_num, rfl, by omega, .inl ⟨rfl, by omega, HTk.out.symm⟩, HOw7, Lib.hid (HB.out.trans HRw7.out)⟩
            case measure => simp [intOf]; omega
          | false =>
            have hti2 : i = t := by
              rcases Nat.lt_or_ge i t with h | h
              · have := HTlt.out h; rw [hlt] at this; cases this
              · omega
            replace HMn := Lib.hid (HMn.out (by omega))
            have HTI := Lib.hid hti2
            clear hti2
            rw [hlt] at hls
            go_wp2_with fail
            refine Free.region_puts (S := fun w' => EnAt w' eb (eo + i * 3) ⟨k, v, gn⟩ ∧ EnAt w' w.heap.size 0 ⟨xk, xv, xg⟩) (B0 := wr.heap.size) (w0 := wr.drew) (om := fun _ => 0) (olds := [])
              (tab := [(5, .gen [.slice (some ⟨eb, eo, none⟩) l.length c, .int .i64 (i : Int)] (.pointer (some ⟨eb, eo + i * 3, none⟩))),
                (7, .load 9 ⟨eb, eo + i * 3, none⟩ (.string k)),
                (9, .load 9 ⟨w.heap.size, 0, none⟩ (.string xk)),
                (10, .call 45 [.string k, .string xk] (.bool false))])
              (by kernel_rfl) ⟨by kernel_rfl, ⟨gen_at _ rfl rfl (fun w => at_24 _ _ _ _ _ (by omega) w), fun _ h => load_9 h.1.1, fun _ h => load_9 h.2.1, ⟨enter_45, fun w _ => hls w⟩, trivial⟩,
                fun β => by kernel_rfl, fun β => by kernel_rfl, fun β => by kernel_rfl, by kernel_rfl, (fun w1 w2 h hb => ⟨h.1.below hb (by omega), h.2.below hb (by omega)⟩), Nat.le_refl _, fun _ _ h => (by cases h), fun _ _ _ _ h => (by cases h)⟩
              (HKeep.out _ (drew_below HRwr.out)) rfl (fun _ _ h => (by cases h)) (fun _ => Free.from_ 14 [.bool false, .bool true, .bool true, .slice (some ⟨eb, eo, none⟩) l.length c, .int .i64 (i : Int), .pointer (some ⟨eb, eo + i * 3, none⟩), .pointer (some ⟨eb, eo + i * 3, none⟩), .string k, .pointer (some ⟨w.heap.size, 0, none⟩), .string xk, .bool false, .bool true, .bool true]) (fun β => by kernel_rfl) ?_
            intro β w4 _ hz b _ _ _
            rw [drew_size] at hz
            have HOw4 := Lib.hid (HOwr.out.below (Below.trans (drew_below (Below.refl _ wr)) b))
            have HRw4 := Lib.hid (HRwr.out.trans ((Below.trans (drew_below (Below.refl _ wr)) b).mono (by omega)))
            clear b HOwr HRwr
            rw [Free.puts_from _ _ _ (Nat.le_of_ble_eq_true rfl)]
            simp only [List.take_succ_cons, List.take_zero, List.drop_succ_cons, List.drop_zero, List.cons_append, List.nil_append, List.length_cons, List.length_nil, Nat.reduceAdd]
            obtain ⟨⟨c1, c2, c3⟩, ⟨x1, x2, x3⟩⟩ := HKeep.out _ HRw4.out
            simp only [Nat.zero_add] at c1 c2 c3 x1 x2 x3
            go_wp2_with (at_builtin; refine wpList_append_ents rfl 24 62 (.inr ⟨rfl, rfl⟩) (.tmp 27) (.tmp 29) rfl (w.heap.size + 1) u5 (l.take i) [⟨xk, xv, xg⟩] rfl (HOw4.out.alloc _) ⟨w4.heap.size, 0, none⟩ 1 rfl (cells_new w4 ⟨xk, xv, xg⟩ 62) (by simp; omega) (by simp; omega) ?_; intro v5 w5 hown hgrow _)
            have HOw5 := Lib.hid hown
            have HRw5 := Lib.hid (below_grown (HRw4.out.alloc (by omega) _) (HOw4.out.alloc _) hgrow (by simp; omega))
            have hzw5 := hgrow.size
            simp at hzw5
            clear hown hgrow c1 c2 c3 x1 x2 x3 HOw4 HRw4
            go_wp2_with fail
            refine Free.region_puts (S := fun w' => EnAt w' eb (eo + i * 3) ⟨k, v, gn⟩ ∧ EnAt w' w.heap.size 0 ⟨xk, xv, xg⟩) (B0 := w5.heap.size) (w0 := w5.drew) (om := fun _ => 0) (olds := [])
              (tab := [(2, .gen [.slice (some ⟨eb, eo, none⟩) l.length c, .int .i64 (i : Int)] (.pointer (some ⟨eb, eo + i * 3, none⟩))),
                (4, .load 9 ⟨eb, eo + i * 3, none⟩ (.string k)),
                (6, .load 9 ⟨w.heap.size, 0, none⟩ (.string xk)),
                (7, .cmp .neq 9 (.string k) (.string xk) (.bool true))])
              (by kernel_rfl) ⟨by kernel_rfl, ⟨gen_at _ rfl rfl (fun w => at_24 _ _ _ _ _ (by omega) w), fun _ h => load_9 h.1.1, fun _ h => load_9 h.2.1, fun xo yo w => cmp_neq9 xo yo w hne, trivial⟩,
                fun β => by kernel_rfl, fun β => by kernel_rfl, fun β => by kernel_rfl, by kernel_rfl, (fun w1 w2 h hb => ⟨h.1.below hb (by omega), h.2.below hb (by omega)⟩), Nat.le_refl _, fun _ _ h => (by cases h), fun _ _ _ _ h => (by cases h)⟩
              (HKeep.out _ (drew_below HRw5.out)) rfl (fun _ _ h => (by cases h)) (fun _ => Free.from_ 31 [.slice (some ⟨eb, eo, none⟩) l.length c, .int .i64 (i : Int), .pointer (some ⟨eb, eo + i * 3, none⟩), .pointer (some ⟨eb, eo + i * 3, none⟩), .string k, .pointer (some ⟨w.heap.size, 0, none⟩), .string xk, .bool true]) (fun β => by kernel_rfl) ?_
            intro β w6 _ hz b _ _ _
            rw [drew_size] at hz
            have HOw6 := Lib.hid (HOw5.out.below (Below.trans (drew_below (Below.refl _ w5)) b))
            have HRw6 := Lib.hid (HRw5.out.trans ((Below.trans (drew_below (Below.refl _ w5)) b).mono (by omega)))
            clear b HOw5 HRw5
            rw [Free.puts_from _ _ _ (Nat.le_of_ble_eq_true rfl)]
            simp only [List.take_succ_cons, List.take_zero, List.drop_succ_cons, List.drop_zero, List.cons_append, List.nil_append, List.length_cons, List.length_nil, Nat.reduceAdd]
            obtain ⟨⟨c1, c2, c3⟩, ⟨x1, x2, x3⟩⟩ := HKeep.out _ HRw6.out
            simp only [Nat.zero_add] at c1 c2 c3 x1 x2 x3
            go_wp2_with (at_builtin; refine wpList_append_ents rfl 24 62 (.inr ⟨rfl, rfl⟩) (.tmp 39) (.tmp 44) rfl (w.heap.size + 1) v5 (l.take i ++ [⟨xk, xv, xg⟩]) [⟨k, v, gn⟩] rfl (HOw6.out.alloc _) ⟨w6.heap.size, 0, none⟩ 1 rfl (cells_new w6 ⟨k, v, gn⟩ 62) (by simp; omega) (by simp; omega) ?_; intro v7 w7 hown hgrow _)
            have HOw7 := Lib.hid hown
            have HRw7 := Lib.hid (below_grown (HRw6.out.alloc (by omega) _) (HOw6.out.alloc _) hgrow (by simp; omega))
            have hzw7 := hgrow.size
            simp at hzw7
            clear hown hgrow c1 c2 c3 x1 x2 x3 HOw6 HRw6
            go_wp2
            go_roundw
            case rel => exact ⟨i + 1, true, l.take i ++ [⟨xk, xv, xg⟩] ++ [⟨k, v, gn⟩], by go_num, rfl, by omega, .inr ⟨rfl, by have := HTI.out; omega, by rw [HMn.out, ← HMt.out HTI.out]⟩, HOw7, Lib.hid (HB.out.trans HRw7.out)⟩
            case measure => simp [intOf]; omega
    · obtain rfl : i = l.length := by omega
      have i1 : ¬ (l.length : Int) < (l.length : Int) := by omega
      have hbw : Below w.heap.size w wr := ((Below.refl _ _).alloc (Nat.le_refl _) _).trans (HB.out.mono (by omega))
      cases d with
      | true =>
        obtain ⟨hti2, hacc⟩ : t < l.length ∧ acc = M l.length := by rcases hcase with ⟨h, _⟩ | ⟨_, h1, h2⟩; cases h; exact ⟨h1, h2⟩
        subst hacc
        go_wp2
        go_ret
        exact ⟨_, rfl, HO.out.mono (by omega), hbw⟩
      | false =>
        obtain ⟨hti2, hacc⟩ : l.length = t ∧ acc = l.take l.length := by rcases hcase with ⟨_, h1, h2⟩ | ⟨h, _⟩; exact ⟨by omega, h2⟩; cases h
        subst hacc
        have HF : Hid (l.take l.length ++ [(⟨xk, xv, xg⟩ : En)] = M l.length) := Lib.hid (by subst hti2; exact HM0.out.symm)
        clear hti2 hcase htw
        have hll : (l.take l.length).length ≤ l.length := by rw [List.length_take]; omega
        obtain ⟨x1, x2, x3⟩ := HXA.out.below HB.out (Nat.lt_succ_self _)
        simp only [Nat.zero_add] at x1 x2 x3
        go_wp2_with (at_builtin; refine wpList_append_ents rfl 24 62 (.inr ⟨rfl, rfl⟩) (.tmp 48) (.tmp 50) rfl (w.heap.size + 1) u5 (l.take l.length) [⟨xk, xv, xg⟩] rfl (HO.out.alloc _) ⟨wr.heap.size, 0, none⟩ 1 rfl (cells_new wr ⟨xk, xv, xg⟩ 62) (by simp; omega) (by simp; omega) ?_; intro v7 w7 hown hgrow _)
        have HO7 : Hid (OwnE 62 w7 (w.heap.size + 1) v7 (M l.length)) := Lib.hid (by rw [← HF.out]; exact hown)
        have HB7 := Lib.hid (hbw.trans ((below_grown ((Below.refl (w.heap.size + 1) wr).alloc (by omega) _) (HO.out.alloc _) hgrow (by simp; omega)).mono (by omega)))
        clear hown hgrow
        go_wp2
        go_ret
        exact ⟨_, rfl, HO7.out.mono (by omega), HB7.out⟩
end Go.Proofs.Ytkapjijppjfmkaa
