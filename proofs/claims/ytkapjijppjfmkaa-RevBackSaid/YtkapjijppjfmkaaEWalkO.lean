/- What the reference's Pairs makes of any entries, any span and any limit; whether two rows of pairs are the same, as the law tells it of two that are. Conditions: at most 1000000 entries, texts of at most 1000000 bytes. -/
import Derived.Test.YtkapjijppjfmkaaEWalkN
import Derived.Test.YtkapjijppjfmkaaEWalkL
namespace Go.Proofs.Ytkapjijppjfmkaa
open Go.RowKit Go.Op
set_option maxRecDepth 100000

def pB (s : Sp) (e : En) : Bool := !e.gone && s.has e.key
def upP (s : Sp) (l : List En) (n i : Nat) : List En := ((l.take i).filter (pB s)).take n
theorem upP_end (s : Sp) (l : List En) (n : Nat) : upP s l n l.length = pairsL l s n := by
  unfold upP pairsL liveL
  rw [List.take_length, List.filter_filter]
  congr 2
  funext e
  simp [pB, Bool.and_comm]
theorem upP_no {s : Sp} {l : List En} {n i : Nat} (hi : i < l.length) (h : pB s l[i] = false) : upP s l n (i + 1) = upP s l n i := by
  unfold upP
  rw [List.take_succ_eq_append_getElem hi, List.filter_append, List.filter_cons, if_neg (by rw [h]; simp)]
  simp
theorem upP_yes {s : Sp} {l : List En} {n i : Nat} (hi : i < l.length) (h : pB s l[i] = true) (hn : (upP s l n i).length < n) : upP s l n (i + 1) = upP s l n i ++ [l[i]] := by
  unfold upP at hn ⊢
  rw [List.length_take] at hn
  have h1 : ((l.take i).filter (pB s)).length < n := by omega
  have e : (l.take (i + 1)).filter (pB s) = (l.take i).filter (pB s) ++ [l[i]] := by
    rw [List.take_succ_eq_append_getElem hi, List.filter_append, List.filter_cons, if_pos h, List.filter_nil]
  rw [e]
  generalize (l.take i).filter (pB s) = F at h1
  rw [List.take_of_length_le (by rw [List.length_append]; simp; omega), List.take_of_length_le (by omega)]
theorem upP_full {s : Sp} {l : List En} {n i : Nat} (hi : i < l.length) (hn : ¬ (upP s l n i).length < n) : upP s l n (i + 1) = upP s l n i := by
  unfold upP at hn ⊢
  rw [List.length_take] at hn
  rw [List.take_succ_eq_append_getElem hi, List.filter_append, List.take_append_of_le_length (by omega)]
theorem upP_len (s : Sp) (l : List En) (n i : Nat) : (upP s l n i).length ≤ i := by
  unfold upP
  rw [List.length_take]
  have := List.length_filter_le (pB s) (l.take i)
  rw [List.length_take] at this
  omega

set_option maxHeartbeats 4000000 in
theorem refpairs_any (a : Option Addr) (l : List En) (c : Nat) (s : Sp) (lim : Int) (w : World) (hl : l.length ≤ 1000000) (hE : Ents w a l) (hk : ∀ e ∈ l, e.key.size ≤ 1000000) (hs1 : s.lo.size ≤ 1000000) (hs2 : s.hi.size ≤ 1000000) :
    Calls Try.prog 21 #[.slice a l.length c, s.v, .int .i64 lim] w fun e w' => ∃ v, e = .returned v ∧ OwnP 84 w' w.heap.size v (pairsL l s lim.toNat) ∧ Below w.heap.size w w' := by
  have HE := Lib.hid hE
  have HK := Lib.hid hk
  have hh := fun k hk w => refhas_any s k hs1 hs2 hk w
  obtain ⟨n, hn⟩ : ∃ n, n = lim.toNat := ⟨_, rfl⟩
  rw [← hn]
  have HN0 := Lib.hid hn
  have HEnd := Lib.hid (upP_end s l n)
  have H1 := Lib.hid (fun i (hi : i < l.length) h => upP_no (s := s) (n := n) hi h)
  have H2 := Lib.hid (fun i (hi : i < l.length) h hn => upP_yes (s := s) (n := n) hi h hn)
  have H3 := Lib.hid (fun i (hi : i < l.length) hn => upP_full (s := s) (n := n) hi hn)
  have H4 := Lib.hid (fun i => upP_len s l n i)
  have H0 : Hid (upP s l n 0 = []) := Lib.hid (by unfold upP; simp)
  obtain ⟨lo, hi, all⟩ := s
  simp only [Sp.v]
  generalize pairsL l ⟨lo, hi, all⟩ n = T at HEnd ⊢
  clear hE hk hn
  obtain ⟨U, hU⟩ : ∃ U : Nat → List En, U = upP ⟨lo, hi, all⟩ l n := ⟨_, rfl⟩
  rw [← hU] at HEnd H1 H2 H3 H4 H0
  clear hU
  go_enter Try.func21, Try.ntmps21
  go_wp2
  go_loopw [7, 8] (fun ov iv wr => ∃ (i : Nat) (acc : List En), iv = .int .i64 (i : Int) ∧ i ≤ l.length ∧ Hid (acc = U i) ∧ acc.length ≤ i ∧ Hid (OwnP 84 wr (w.heap.size + 1) ov acc) ∧ Hid (Below w.heap.size w wr) ∧ Hid (At w.heap.size 0 ⟨lo, hi, all⟩ wr) ∧ w.heap.size < wr.heap.size) (fun _ iv _ => l.length - (intOf iv).toNat)
  case atStart => exact ⟨0, [], rfl, by omega, Lib.hid H0.out.symm, by simp, Lib.hid (OwnP.nil _ _ _), Lib.hid ((Below.refl _ _).alloc (Nat.le_refl _) _), Lib.hid ⟨by simp [go_sem], by simp [go_sem], by simp [go_sem]⟩, by simp⟩
  case round =>
    obtain ⟨i, acc, rfl, hil, HA, hal, HO, HB, HSp, hsz⟩ := hrel
    obtain ⟨oa, oc, rfl, _⟩ := HO.out.prs
    by_cases h1 : i < l.length
    · have i1 : (i : Int) < (l.length : Int) := by omega
      obtain ⟨eb, eo, rfl, heb, hc⟩ := HE.out.at h1
      have hc2 := hc.below HB.out heb
      have hks := HK.out _ (List.getElem_mem h1)
      have H1i := Lib.hid (H1.out i h1)
      have H2i := Lib.hid (H2.out i h1)
      have H3i := Lib.hid (H3.out i h1)
      clear hc
      generalize l[i] = x at hc2 H1i H2i hks
      obtain ⟨k, v, gn⟩ := x
      simp only at hks
      have hhk := hh k hks
      have HC := Lib.hid hc2
      clear hc2
      cases gn with
      | true =>
        have HN : Hid (acc = U (i + 1)) := Lib.hid (by rw [H1i.out (by simp [pB]), HA.out])
        go_wp2_with fail
        refine Free.region_puts (S := fun w' => EnAt w' eb (eo + i * 3) ⟨k, v, true⟩ ∧ At w.heap.size 0 ⟨lo, hi, all⟩ w') (B0 := wr.heap.size) (w0 := wr.drew) (om := fun _ => 0) (olds := [])
          (tab := [(2, .gen [.slice (some ⟨eb, eo, none⟩) l.length c, .int .i64 (i : Int)] (.pointer (some ⟨eb, eo + i * 3, none⟩))),
            (4, .load 4 ⟨eb, eo + i * 3 + 2, none⟩ (.bool true))])
          (by kernel_rfl) ⟨by kernel_rfl, ⟨gen_at _ rfl rfl (fun w => at_24 _ _ _ _ _ (by omega) w), fun _ h => load_4 h.1.2.2, trivial⟩,
            fun β => by kernel_rfl, fun β => by kernel_rfl, fun β => by kernel_rfl, by kernel_rfl, (fun w1 w2 h hb => ⟨h.1.below hb (by omega), h.2.keep hb hsz⟩), Nat.le_refl _, fun _ _ h => (by cases h), fun _ _ _ _ h => (by cases h)⟩
          ⟨HC.out, HSp.out⟩ rfl (fun _ _ h => (by cases h)) (fun _ => Free.from_ 15 [.slice (some ⟨eb, eo, none⟩) l.length c, .int .i64 (i : Int), .pointer (some ⟨eb, eo + i * 3, none⟩), .pointer (some ⟨eb, eo + i * 3 + 2, none⟩), .bool true, .bool false, .bool false, undef, undef, undef, undef, undef, undef, undef, .bool false, .bool false, undef, undef, undef, undef, .bool false]) (fun β => by kernel_rfl) ?_
        intro β w4 _ hz b _ _ _
        rw [drew_size] at hz
        have hb4 := Lib.hid (Below.trans (drew_below (Below.refl wr.heap.size wr)) b)
        have HO4 := Lib.hid (HO.out.below hb4.out)
        have HB4 := Lib.hid (HB.out.trans (hb4.out.mono (by omega)))
        have HSp4 := Lib.hid (HSp.out.keep hb4.out hsz)
        clear b HO HB HSp hb4
        rw [Free.puts_from _ _ _ (Nat.le_of_ble_eq_true rfl)]
        simp only [List.take_succ_cons, List.take_zero, List.drop_succ_cons, List.drop_zero, List.cons_append, List.nil_append, List.length_cons, List.length_nil, Nat.reduceAdd]
        go_wp2
        go_roundw
        case rel => exact ⟨i + 1, acc, by go_num, by omega, HN, by omega, HO4, HB4, HSp4, by omega⟩
        case measure => simp [intOf]; omega
      | false =>
        cases hhas : (Sp.mk lo hi all).has k with
        | false =>
          rw [hhas] at hhk
          have HN : Hid (acc = U (i + 1)) := Lib.hid (by rw [H1i.out (by simp [pB, hhas]), HA.out])
          go_wp2_with fail
          refine Free.region_puts (S := fun w' => EnAt w' eb (eo + i * 3) ⟨k, v, false⟩ ∧ At w.heap.size 0 ⟨lo, hi, all⟩ w') (B0 := wr.heap.size) (w0 := wr.drew) (om := fun _ => 0) (olds := [])
            (tab := [(2, .gen [.slice (some ⟨eb, eo, none⟩) l.length c, .int .i64 (i : Int)] (.pointer (some ⟨eb, eo + i * 3, none⟩))),
              (4, .load 4 ⟨eb, eo + i * 3 + 2, none⟩ (.bool false)),
              (7, .load 23 ⟨w.heap.size, 0, none⟩ ((Sp.mk lo hi all).v)),
              (10, .gen [.slice (some ⟨eb, eo, none⟩) l.length c, .int .i64 (i : Int)] (.pointer (some ⟨eb, eo + i * 3, none⟩))),
              (12, .load 9 ⟨eb, eo + i * 3, none⟩ (.string k)),
              (13, .call 41 [(Sp.mk lo hi all).v, .string k] (.bool false))])
            (by kernel_rfl) ⟨by kernel_rfl, ⟨gen_at _ rfl rfl (fun w => at_24 _ _ _ _ _ (by omega) w), fun _ h => load_4 h.1.2.2, fun _ h => load_23 h.2, gen_at _ rfl rfl (fun w => at_24 _ _ _ _ _ (by omega) w), fun _ h => load_9 h.1.1, ⟨enter_41, fun w _ => hhk w⟩, trivial⟩,
              fun β => by kernel_rfl, fun β => by kernel_rfl, fun β => by kernel_rfl, by kernel_rfl, (fun w1 w2 h hb => ⟨h.1.below hb (by omega), h.2.keep hb hsz⟩), Nat.le_refl _, fun _ _ h => (by cases h), fun _ _ _ _ h => (by cases h)⟩
            ⟨HC.out, HSp.out⟩ rfl (fun _ _ h => (by cases h)) (fun _ => Free.from_ 15 [.slice (some ⟨eb, eo, none⟩) l.length c, .int .i64 (i : Int), .pointer (some ⟨eb, eo + i * 3, none⟩), .pointer (some ⟨eb, eo + i * 3 + 2, none⟩), .bool false, .bool true, .bool true, (Sp.mk lo hi all).v, .slice (some ⟨eb, eo, none⟩) l.length c, .int .i64 (i : Int), .pointer (some ⟨eb, eo + i * 3, none⟩), .pointer (some ⟨eb, eo + i * 3, none⟩), .string k, .bool false, .bool false, .bool false, undef, undef, undef, undef, .bool false]) (fun β => by kernel_rfl) ?_
          intro β w4 _ hz b _ _ _
          rw [drew_size] at hz
          have hb4 := Lib.hid (Below.trans (drew_below (Below.refl wr.heap.size wr)) b)
          have HO4 := Lib.hid (HO.out.below hb4.out)
          have HB4 := Lib.hid (HB.out.trans (hb4.out.mono (by omega)))
          have HSp4 := Lib.hid (HSp.out.keep hb4.out hsz)
          clear b HO HB HSp hb4
          rw [Free.puts_from _ _ _ (Nat.le_of_ble_eq_true rfl)]
          simp only [List.take_succ_cons, List.take_zero, List.drop_succ_cons, List.drop_zero, List.cons_append, List.nil_append, List.length_cons, List.length_nil, Nat.reduceAdd]
          go_wp2
          go_roundw
          case rel => exact ⟨i + 1, acc, by go_num, by omega, HN, by omega, HO4, HB4, HSp4, by omega⟩
          case measure => simp [intOf]; omega
        | true =>
          rw [hhas] at hhk
          by_cases hlm : acc.length < n
          · have hlim : decide ((acc.length : Int) < lim) = true := decide_eq_true (by have := HN0.out; omega)
            have HN : Hid (acc ++ [⟨k, v, false⟩] = U (i + 1)) := Lib.hid (by rw [H2i.out (by simp [pB, hhas]) (by rw [← HA.out]; exact hlm), HA.out])
            go_wp2_with fail
            refine Free.region_puts (S := fun w' => EnAt w' eb (eo + i * 3) ⟨k, v, false⟩ ∧ At w.heap.size 0 ⟨lo, hi, all⟩ w') (B0 := wr.heap.size) (w0 := wr.drew) (om := fun _ => 0) (olds := [])
              (tab := [(2, .gen [.slice (some ⟨eb, eo, none⟩) l.length c, .int .i64 (i : Int)] (.pointer (some ⟨eb, eo + i * 3, none⟩))),
                (4, .load 4 ⟨eb, eo + i * 3 + 2, none⟩ (.bool false)),
                (7, .load 23 ⟨w.heap.size, 0, none⟩ ((Sp.mk lo hi all).v)),
                (10, .gen [.slice (some ⟨eb, eo, none⟩) l.length c, .int .i64 (i : Int)] (.pointer (some ⟨eb, eo + i * 3, none⟩))),
                (12, .load 9 ⟨eb, eo + i * 3, none⟩ (.string k)),
                (13, .call 41 [(Sp.mk lo hi all).v, .string k] (.bool true)),
                (17, .gen [.slice oa acc.length oc] (.int .i64 (acc.length : Int))),
                (19, .cmp .lss 3 (.int .i64 (acc.length : Int)) (.int .i64 lim) (.bool true))])
              (by kernel_rfl) ⟨by kernel_rfl, ⟨gen_at _ rfl rfl (fun w => at_24 _ _ _ _ _ (by omega) w), fun _ h => load_4 h.1.2.2, fun _ h => load_23 h.2, gen_at _ rfl rfl (fun w => at_24 _ _ _ _ _ (by omega) w), fun _ h => load_9 h.1.1, ⟨enter_41, fun w _ => hhk w⟩, gen_len _ rfl rfl (len_53 _ _ _), fun xo yo w => cmp_lss3 xo yo w hlim, trivial⟩,
                fun β => by kernel_rfl, fun β => by kernel_rfl, fun β => by kernel_rfl, by kernel_rfl, (fun w1 w2 h hb => ⟨h.1.below hb (by omega), h.2.keep hb hsz⟩), Nat.le_refl _, fun _ _ h => (by cases h), fun _ _ _ _ h => (by cases h)⟩
              ⟨HC.out, HSp.out⟩ rfl (fun _ _ h => (by cases h)) (fun _ => Free.from_ 15 [.slice (some ⟨eb, eo, none⟩) l.length c, .int .i64 (i : Int), .pointer (some ⟨eb, eo + i * 3, none⟩), .pointer (some ⟨eb, eo + i * 3 + 2, none⟩), .bool false, .bool true, .bool true, (Sp.mk lo hi all).v, .slice (some ⟨eb, eo, none⟩) l.length c, .int .i64 (i : Int), .pointer (some ⟨eb, eo + i * 3, none⟩), .pointer (some ⟨eb, eo + i * 3, none⟩), .string k, .bool true, .bool true, .bool true, .slice oa acc.length oc, .int .i64 (acc.length : Int), .int .i64 lim, .bool true, .bool true]) (fun β => by kernel_rfl) ?_
            intro β w4 _ hz b _ _ _
            rw [drew_size] at hz
            have hb4 := Lib.hid (Below.trans (drew_below (Below.refl wr.heap.size wr)) b)
            have HO4 := Lib.hid (HO.out.below hb4.out)
            have HB4 := Lib.hid (HB.out.trans (hb4.out.mono (by omega)))
            have HSp4 := Lib.hid (HSp.out.keep hb4.out hsz)
            obtain ⟨c1, c2, c3⟩ := HC.out.below hb4.out (by omega)
            simp only at c1 c2 c3
            clear b HO HB HSp hb4
            rw [Free.puts_from _ _ _ (Nat.le_of_ble_eq_true rfl)]
            simp only [List.take_succ_cons, List.take_zero, List.drop_succ_cons, List.drop_zero, List.cons_append, List.nil_append, List.length_cons, List.length_nil, Nat.reduceAdd]
            go_wp2_with fail
            go_region_law (refine step_append_pair rfl 53 84 (.inr ⟨rfl, rfl⟩) (.tmp 36) (.tmp 48) rfl (w.heap.size + 1) (.slice oa acc.length oc) acc [⟨k, v, false⟩] (by simp [Act.eval]) (HO4.out.alloc _) ⟨w4.heap.size, 0, none⟩ 1 (by simp [Act.eval]) (pair_new w4 ⟨k, v, false⟩ 84) (by simp; omega) (by simp; omega) ?_; intro v7 w7 hown hgrow)
            all_goals
              have hz7 := hgrow.size
              simp at hz7
              have HO7 := Lib.hid hown
              have HR7 := Lib.hid (below_pair (drew_below ((Below.refl (w.heap.size + 1) w4).alloc (by omega) _)) (HO4.out.alloc _) hgrow (by simp; omega))
              have HB7 := Lib.hid (HB4.out.trans (HR7.out.mono (by omega)))
              have HSp7 := Lib.hid (HSp4.out.keep HR7.out (Nat.lt_succ_self _))
              clear hown hgrow
              go_wp2
              go_roundw
              case rel => exact ⟨i + 1, acc ++ [⟨k, v, false⟩], by go_num, by omega, HN, by simp; omega, HO7, HB7, HSp7, by omega⟩
              case measure => simp [intOf]; omega
          · have hlim : decide ((acc.length : Int) < lim) = false := decide_eq_false (by have := HN0.out; omega)
            have HN : Hid (acc = U (i + 1)) := Lib.hid (by rw [H3i.out (by rw [← HA.out]; exact hlm), HA.out])
            go_wp2_with fail
            refine Free.region_puts (S := fun w' => EnAt w' eb (eo + i * 3) ⟨k, v, false⟩ ∧ At w.heap.size 0 ⟨lo, hi, all⟩ w') (B0 := wr.heap.size) (w0 := wr.drew) (om := fun _ => 0) (olds := [])
              (tab := [(2, .gen [.slice (some ⟨eb, eo, none⟩) l.length c, .int .i64 (i : Int)] (.pointer (some ⟨eb, eo + i * 3, none⟩))),
                (4, .load 4 ⟨eb, eo + i * 3 + 2, none⟩ (.bool false)),
                (7, .load 23 ⟨w.heap.size, 0, none⟩ ((Sp.mk lo hi all).v)),
                (10, .gen [.slice (some ⟨eb, eo, none⟩) l.length c, .int .i64 (i : Int)] (.pointer (some ⟨eb, eo + i * 3, none⟩))),
                (12, .load 9 ⟨eb, eo + i * 3, none⟩ (.string k)),
                (13, .call 41 [(Sp.mk lo hi all).v, .string k] (.bool true)),
                (17, .gen [.slice oa acc.length oc] (.int .i64 (acc.length : Int))),
                (19, .cmp .lss 3 (.int .i64 (acc.length : Int)) (.int .i64 lim) (.bool false))])
              (by kernel_rfl) ⟨by kernel_rfl, ⟨gen_at _ rfl rfl (fun w => at_24 _ _ _ _ _ (by omega) w), fun _ h => load_4 h.1.2.2, fun _ h => load_23 h.2, gen_at _ rfl rfl (fun w => at_24 _ _ _ _ _ (by omega) w), fun _ h => load_9 h.1.1, ⟨enter_41, fun w _ => hhk w⟩, gen_len _ rfl rfl (len_53 _ _ _), fun xo yo w => cmp_lss3 xo yo w hlim, trivial⟩,
                fun β => by kernel_rfl, fun β => by kernel_rfl, fun β => by kernel_rfl, by kernel_rfl, (fun w1 w2 h hb => ⟨h.1.below hb (by omega), h.2.keep hb hsz⟩), Nat.le_refl _, fun _ _ h => (by cases h), fun _ _ _ _ h => (by cases h)⟩
              ⟨HC.out, HSp.out⟩ rfl (fun _ _ h => (by cases h)) (fun _ => Free.from_ 15 [.slice (some ⟨eb, eo, none⟩) l.length c, .int .i64 (i : Int), .pointer (some ⟨eb, eo + i * 3, none⟩), .pointer (some ⟨eb, eo + i * 3 + 2, none⟩), .bool false, .bool true, .bool true, (Sp.mk lo hi all).v, .slice (some ⟨eb, eo, none⟩) l.length c, .int .i64 (i : Int), .pointer (some ⟨eb, eo + i * 3, none⟩), .pointer (some ⟨eb, eo + i * 3, none⟩), .string k, .bool true, .bool true, .bool true, .slice oa acc.length oc, .int .i64 (acc.length : Int), .int .i64 lim, .bool false, .bool false]) (fun β => by kernel_rfl) ?_
            intro β w4 _ hz b _ _ _
            rw [drew_size] at hz
            have hb4 := Lib.hid (Below.trans (drew_below (Below.refl wr.heap.size wr)) b)
            have HO4 := Lib.hid (HO.out.below hb4.out)
            have HB4 := Lib.hid (HB.out.trans (hb4.out.mono (by omega)))
            have HSp4 := Lib.hid (HSp.out.keep hb4.out hsz)
            clear b HO HB HSp hb4
            rw [Free.puts_from _ _ _ (Nat.le_of_ble_eq_true rfl)]
            simp only [List.take_succ_cons, List.take_zero, List.drop_succ_cons, List.drop_zero, List.cons_append, List.nil_append, List.length_cons, List.length_nil, Nat.reduceAdd]
            go_wp2
            go_roundw
            case rel => exact ⟨i + 1, acc, by go_num, by omega, HN, by omega, HO4, HB4, HSp4, by omega⟩
            case measure => simp [intOf]; omega
    · obtain rfl : i = l.length := by omega
      have i1 : ¬ (l.length : Int) < (l.length : Int) := by omega
      have HF : Hid (OwnP 84 wr w.heap.size (.slice oa acc.length oc) T) := Lib.hid (by rw [← HEnd.out, ← HA.out]; exact HO.out.mono (by omega))
      go_wp2
      go_ret
      exact ⟨.slice oa acc.length oc, rfl, HF.out, HB.out⟩

set_option maxHeartbeats 4000000 in
theorem samepairs_any (a b : Option Addr) (l : List En) (c d : Nat) (w : World) (hl : l.length ≤ 1000000) (hA : Prs w a l) (hB : Prs w b l) :
    Calls Try.prog 19 #[.slice a l.length c, .slice b l.length d] w fun e w' => e = .returned (.int .i64 1) ∧ Below w.heap.size w w' := by
  have HA := Lib.hid hA
  have HB := Lib.hid hB
  clear hA hB
  have e0 : ((l.length : Int) != (l.length : Int)) = false := by simp
  go_enter Try.func19, Try.ntmps19
  go_wp2
  go_loopw [5] (fun iv wr => ∃ i : Nat, iv = .int .i64 (i : Int) ∧ i ≤ l.length ∧ Below w.heap.size w wr) (fun iv _ => l.length - (intOf iv).toNat)
  case atStart => exact ⟨0, rfl, by omega, Below.refl _ _⟩
  case round =>
    obtain ⟨i, rfl, hil, hbr⟩ := hrel
    by_cases h1 : i < l.length
    · have i1 : (i : Int) < (l.length : Int) := by omega
      obtain ⟨g, o, rfl, hg, c1, c2⟩ : ∃ g o, a = some ⟨g, o, none⟩ ∧ g < w.heap.size ∧ wr.cell? ⟨g, o + i * 2, none⟩ = some (.string l[i].key) ∧ wr.cell? ⟨g, o + i * 2 + 1, none⟩ = some (.string l[i].val) := by
        rcases HA.out with h | ⟨g, o, rfl, hlt, hc⟩
        · rw [h] at h1; simp at h1
        · exact ⟨g, o, rfl, hlt, keep hbr (hc i h1).1 hlt, keep hbr (hc i h1).2 hlt⟩
      obtain ⟨g2, o2, rfl, hg2, c3, c4⟩ : ∃ g o, b = some ⟨g, o, none⟩ ∧ g < w.heap.size ∧ wr.cell? ⟨g, o + i * 2, none⟩ = some (.string l[i].key) ∧ wr.cell? ⟨g, o + i * 2 + 1, none⟩ = some (.string l[i].val) := by
        rcases HB.out with h | ⟨g, o, rfl, hlt, hc⟩
        · rw [h] at h1; simp at h1
        · exact ⟨g, o, rfl, hlt, keep hbr (hc i h1).1 hlt, keep hbr (hc i h1).2 hlt⟩
      generalize l[i] = x at c1 c2 c3 c4
      obtain ⟨k, v, gn⟩ := x
      simp only at c1 c2 c3 c4
      have e1 : (k.toList == k.toList) = true := by simp
      have e2 : (v.toList == v.toList) = true := by simp
      go_wp2_with fail
      go_quiet (fail)
      go_wp2
      go_roundw
      case rel => exact ⟨i + 1, by go_num, by omega, below_drewN hbr _⟩
      case measure => simp [intOf]; omega
    · have i1 : ¬ (i : Int) < (l.length : Int) := by omega
      go_wp2
      go_ret
      exact ⟨rfl, hbr⟩
end Go.Proofs.Ytkapjijppjfmkaa
