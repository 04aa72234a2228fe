/- MemPlays's law: at any number and any acts it answers true. Conditions: the acts can be read; the library's table stands. -/
import Derived.Test.YtnhpcakdnaoekaaDoorLawO
namespace Go.Proofs.YtnhpcakdnaoekaaDoor
open Go.RowKit Go.Op
set_option maxRecDepth 100000

set_option maxHeartbeats 2000000 in
theorem plays_main (n : Nat) (hn1 : 1 ≤ n) (hn2 : n ≤ 300) (a : Option Addr) (l : List Ac) (cap : Nat) (w : World) (hT : TabAt w) (hL : Acts w a l) (hO : ActsOk l) (hlen : l.length ≤ 200) :
    Calls Tryd.prog 3 #[.int .i64 (n : Int), .slice a l.length cap] w fun e w' => e = .returned (.bool true) ∧ Below w.heap.size w w' := by
  have haw := fun w2 h2 => awake_any w2 (hT.below (w' := w2) h2)
  have HT := Lib.hid hT
  have HL := Lib.hid hL
  have HO := Lib.hid hO
  have mixed : Tryd.prog.follows .mixedOrders = true := by kernel_rfl
  have h1 : (l.length : Int) ≤ 200 := by omega
  have q1 : ¬ (n : Int) < 1 := by omega
  have q2 : ¬ 65535 < (n : Int) := by omega
  have q3 : ¬ 300 < (n : Int) := by omega
  clear hL hO hT
  go_enter Tryd.func3, Tryd.ntmps3
  go_wp2_with fail
  refine (haw _ (Below.refl _ _)).mono ?_
  rintro e w1 ⟨rfl, b1⟩
  have hn := has_new n hn1 (by omega) b1
  clear haw
  go_wp2_with fail
  refine hn.mono ?_
  rintro e w2 ⟨b, c, r, rfl, hH⟩
  have hcl := cells_any w2 b c r _ hH.at_
  rw [show (M.new n).cells.length = n by simp [M.new]] at hcl
  have HH := Lib.hid hH
  have hrn := refnew_any w2 n (by omega)
  clear hH hn b1
  go_wp2_with fail
  refine hcl.mono ?_
  rintro e w3 ⟨rfl, rfl⟩
  clear hcl
  go_wp2_with fail
  refine hrn.mono ?_
  rintro e w3 ⟨rc, cp, rfl, hr3, b3, hrc⟩
  clear hrn
  obtain ⟨pw, B, w4, hw4, hpw, HX, HP⟩ : ∃ pw B w4, w4 = w3.alloc (.cells #[.slice (some ⟨rc, 0, none⟩) (M.new n).cells.length cp, .int .i64 (M.new n).count, .int .i64 (M.new n).live, .int .i64 (M.new n).stale] 31) ∧ pw = w3.heap.size ∧ Hid (Fix w b c r pw B) ∧ Hid (Pl w b c r pw B 0 w4 (M.new n) rc cp [] (.slice none 0 0)) :=
    ⟨_, _, _, rfl, rfl, plays_start HH.out hr3 b3 hrc cp⟩
  generalize M.new n = m0 at *
  clear HH hr3 b3 hrc
  unfold M.rv
  go_wp2_with fail
  rw [← hw4, ← hpw]
  clear hw4 hpw
  go_loopw [10, 11] (fun tv iv wr => ∃ (i : Nat) (m : M) (rc cp : Nat) (told : List Int) (ta : Option Addr) (tc : Nat), i ≤ l.length ∧ tv = .slice ta told.length tc ∧ iv = .int .i64 (i : Int) ∧ told.length ≤ i ∧ Hid (Pl w b c r pw B i wr m rc cp told (.slice ta told.length tc))) (fun _ iv _ => l.length - (intOf iv).toNat)
  case atStart => exact ⟨0, m0, rc, cp, [], none, 0, by omega, rfl, rfl, by simp, HP.out⟩
  case round =>
    obtain ⟨i, m, rc, cp, told, ta, tc, hi, rfl, rfl, hti, hR⟩ := hrel
    clear HP
    by_cases hlt : i < l.length
    · obtain ⟨pb, off, ea, hz⟩ := HL.out.at (Below.refl _ w) hlt
      obtain ⟨g0, g1, gp, _⟩ := HO.out _ (List.getElem_mem hlt)
      subst ea
      generalize l[i] = z at *
      have HZ := Lib.hid (⟨hz, World.block_lt_of_cell? w _ hz.1, gp, g0, g1⟩ : AcAt w pb (off + i * 5) z ∧ pb < w.heap.size ∧ (-9223372036854775808 ≤ z.pos ∧ z.pos ≤ 9223372036854775807) ∧ (0 ≤ z.act ∧ z.act ≤ 255))
      clear hz g0 g1 gp
      have i1 : (i : Int) < (l.length : Int) := by omega
      go_wp2_with fail
      refine FreeV.region_puts (S := (fun bs β W => Mid w b c r pw B i m rc cp told (.slice ta told.length tc) bs β W)) (effs := [7, 12, 13])
        (tab := [⟨1, fun _ => [.pointer (some ⟨pw, 0, none⟩)], fun _ => (m.rv rc cp), .read⟩,
          ⟨4, fun _ => [.slice (some ⟨pb, off, none⟩) l.length cap, .int .i64 (i : Int)], fun _ => .pointer (some ⟨pb, (off + i * 5), none⟩), .pure⟩,
          ⟨5, fun _ => [.pointer (some ⟨pb, (off + i * 5), none⟩)], fun _ => z.v, .read⟩,
          ⟨7, fun _ => [.func (.func 12) #[] #[], .pointer (some ⟨b, 0, none⟩), (m.rv rc cp), z.v, .slice ta told.length tc], fun β => (β 7), .get⟩,
          ⟨9, fun β => [(β 7)], fun β => (nth 0 (β 7)), .read⟩,
          ⟨10, fun β => [(β 7)], fun β => (nth 1 (β 7)), .read⟩,
          ⟨11, fun β => [(β 7)], fun β => (nth 2 (β 7)), .read⟩,
          ⟨12, fun _ => [], fun β => (β 12), .eff⟩,
          ⟨13, fun β => [(β 12), (nth 0 (β 7))], fun _ => undef, .put⟩])
        (vs := [([], fun _ => .pointer (some ⟨b, 0, none⟩)), ([], fun _ => (m.rv rc cp)), ([], fun _ => .slice (some ⟨pb, off, none⟩) l.length cap), ([], fun _ => .int .i64 (i : Int)), ([], fun _ => .pointer (some ⟨pb, (off + i * 5), none⟩)), ([], fun _ => z.v), ([], fun _ => .slice ta told.length tc), ([7], fun l => l.headD undef), ([7], fun l => l.headD undef), ([7], fun l => nth 0 (l.headD undef)), ([7], fun l => nth 1 (l.headD undef)), ([7], fun l => nth 2 (l.headD undef)), ([12], fun l => l.headD undef), ([], fun _ => undef), ([7], fun l => nth 1 (l.headD undef)), ([7], fun l => nth 2 (l.headD undef))])
        (by kernel_rfl) ⟨by kernel_rfl, ⟨FreeV.d_load _ rfl rfl (fun β bs w h hd => mid_mem h),
          FreeV.d_at _ rfl rfl (fun _ w => at_22 pb off l.length cap i hlt w),
          FreeV.d_load _ rfl rfl (fun β bs w h hd => mid_act h (pb := pb) (off := off + i * 5) HZ.out.1 HZ.out.2.1),
          FreeV.d_get4 _ rfl rfl enter_12 0 rfl (fun β bs w h hd => mid_does HX.out HT.out (by omega) (by omega) HZ.out.2.2.1 HZ.out.2.2.2 h ((hd 0 7 rfl).2 (.inr rfl)) ((hd 2 13 rfl).2 (.inl (by kernel_rfl)))),
          FreeV.d_extract _ rfl rfl (fun β bs w h hd => mid_nth h ((hd 0 7 rfl).1 (by kernel_rfl)) (by decide)),
          FreeV.d_extract _ rfl rfl (fun β bs w h hd => mid_nth h ((hd 0 7 rfl).1 (by kernel_rfl)) (by decide)),
          FreeV.d_extract _ rfl rfl (fun β bs w h hd => mid_nth h ((hd 0 7 rfl).1 (by kernel_rfl)) (by decide)),
          FreeV.d_alloc _ rfl rfl 1 rfl (fun β bs w h hd => mid_alloc h ((hd 2 13 rfl).2 (.inl (by kernel_rfl)))),
          FreeV.d_store _ rfl rfl 2 rfl (fun β bs w h hd => mid_store HX.out h ((hd 0 7 rfl).1 (by kernel_rfl)) ((hd 1 12 rfl).1 (by kernel_rfl))),
          trivial⟩,
          fun β => by kernel_rfl, fun β => by kernel_rfl, by kernel_rfl, fun β => by kernel_rfl, by kernel_rfl⟩ (mid_start hR.out) (fun β => Free.from_ 70 [.pointer (some ⟨b, 0, none⟩), (m.rv rc cp), .slice (some ⟨pb, off, none⟩) l.length cap, .int .i64 (i : Int), .pointer (some ⟨pb, (off + i * 5), none⟩), z.v, .slice ta told.length tc, (β 7)] ++ [(69, (β 7)), (78, (nth 0 (β 7))), (79, (nth 1 (β 7))), (80, (nth 2 (β 7))), (12, (β 12)), (13, (nth 1 (β 7))), (14, (nth 2 (β 7)))]) (fun β => by kernel_rfl) ?_
      intro β w6 h6
      obtain ⟨m2, rc2, cp2, g, to, e7, e12, hh, hr2, hv, ho, hnb, hnt, hsz, hg1, hg2, hgr⟩ := mid_end h6
      simp only [e7, e12, nth_0, nth_1, nth_2]
      rw [FreeX.puts_append, Free.puts_from _ _ _ (Nat.le_of_ble_eq_true rfl)]
      simp only [List.take_succ_cons, List.take_zero, List.drop_succ_cons, List.drop_zero, List.cons_append, List.nil_append, List.length_cons, List.length_nil, Nat.reduceAdd]
      unfold Free.puts
      simp only [List.foldl_cons, List.foldl_nil]
      have HS7 := Lib.hid (after_does (cap2 := cp2) HX.out hh hr2 hv ho hnb hnt hsz)
      obtain ⟨v0, v1, v2, v3⟩ := (⟨hv.at_ 0 _ rfl, hv.at_ 1 _ rfl, hv.at_ 2 _ rfl, hv.at_ 3 _ rfl⟩ : _ ∧ _ ∧ _ ∧ _)
      obtain ⟨y0, y1, y2, y3⟩ := (⟨hgr 0 _ rfl, hgr 1 _ rfl, hgr 2 _ rfl, hgr 3 _ rfl⟩ : _ ∧ _ ∧ _ ∧ _)
      have vf := hv.fz
      simp only [Nat.zero_add, Nat.add_zero] at v0 v1 v2 v3 y0 y1 y2 y3
      have hgp : g ≠ pw := by have := HX.out.lp; omega
      obtain ⟨w7, hw7⟩ : ∃ W, W = (((w6.setCell ⟨pw, 0, none⟩ (.slice (some ⟨rc2, 0, none⟩) m2.cells.length cp2)).setCell ⟨pw, 1, none⟩ (.int .i64 m2.count)).setCell ⟨pw, 2, none⟩ (.int .i64 m2.live)).setCell ⟨pw, 3, none⟩ (.int .i64 m2.stale) := ⟨_, rfl⟩
      have HW7 := Lib.hid hw7.symm
      unfold four at HS7
      rw [← hw7] at HS7
      have z7 := HS7.out.sz
      have hs7 : w7.heap.size = w6.heap.size := by rw [hw7]; simp [World.setCell]
      clear hw7 h6 hh hr2 hv ho hnb hnt hsz hgr e7 e12 hR
      by_cases hto : 0 < to
      · go_wp2_with (at_builtin; rw [HW7.out]; refine append1 rfl (.tmp 84) (.tmp 86) rfl B (.slice ta told.length tc) told to rfl (HS7.out.t.below ((Below.refl _ _).alloc (Nat.le_refl _) _)) w6.heap.size 1 rfl (by rw [← hs7]; exact alloc_cell _ _ _ 0 _ rfl) (by omega) (by simp; omega) ?_; intro v' w8 hown hgrow hblk; have H8 := Lib.hid (⟨hown, hgrow, hblk⟩ : _ ∧ _ ∧ _); clear hown hgrow hblk)
        obtain ⟨told2, ta2, tc2, EV, HP, htl⟩ : ∃ (told2 : List Int) (ta2 : Option Addr) (tc2 : Nat), Hid (v' = .slice ta2 told2.length tc2) ∧ Hid (Pl w b c r pw B (i + 1) w8 m2 rc2 cp2 told2 (.slice ta2 told2.length tc2)) ∧ told2.length ≤ i + 1 := by
          have hp := HS7.out.grown HX.out to H8.out.1 H8.out.2.1 H8.out.2.2
          obtain ⟨la', lc', ev⟩ := own_len H8.out.1
          refine ⟨told ++ [to], la', lc', ev, ?_, by simp; omega⟩
          rw [← ev]
          exact hp
        clear H8 HS7 HW7 v0 v1 v2 v3 y0 y1 y2 y3 vf
        go_wp2_with fail
        rw [EV.out]
        refine FreeV.region_puts (S := (fun _ _ W => Below w8.heap.size w8 W)) (effs := [])
          (tab := [⟨4, fun _ => [.func (.func 13) #[] #[], .pointer (some ⟨b, 0, none⟩)], fun _ => .int .i64 m2.count, .ask⟩,
            ⟨6, fun _ => [.pointer (some ⟨pw, 1, none⟩)], fun _ => .int .i64 m2.count, .read⟩,
            ⟨7, fun _ => [.int .i64 m2.count, .int .i64 m2.count], fun _ => .bool false, .pure⟩,
            ⟨11, fun _ => [.func (.func 14) #[] #[], .pointer (some ⟨b, 0, none⟩)], fun _ => .int .i64 m2.live, .ask⟩,
            ⟨13, fun _ => [.pointer (some ⟨pw, 2, none⟩)], fun _ => .int .i64 m2.live, .read⟩,
            ⟨14, fun _ => [.int .i64 m2.live, .int .i64 m2.live], fun _ => .bool false, .pure⟩,
            ⟨18, fun _ => [.func (.func 15) #[] #[], .pointer (some ⟨b, 0, none⟩)], fun _ => .int .i64 m2.stale, .ask⟩,
            ⟨20, fun _ => [.pointer (some ⟨pw, 3, none⟩)], fun _ => .int .i64 m2.stale, .read⟩,
            ⟨21, fun _ => [.int .i64 m2.stale, .int .i64 m2.stale], fun _ => .bool false, .pure⟩])
          (vs := [([], fun _ => .bool true), ([], fun _ => .bool false), ([], fun _ => .bool false), ([], fun _ => .pointer (some ⟨b, 0, none⟩)), ([], fun _ => .int .i64 m2.count), ([], fun _ => .pointer (some ⟨pw, 1, none⟩)), ([], fun _ => .int .i64 m2.count), ([], fun _ => .bool false), ([], fun _ => .bool false), ([], fun _ => .bool false), ([], fun _ => .pointer (some ⟨b, 0, none⟩)), ([], fun _ => .int .i64 m2.live), ([], fun _ => .pointer (some ⟨pw, 2, none⟩)), ([], fun _ => .int .i64 m2.live), ([], fun _ => .bool false), ([], fun _ => .bool false), ([], fun _ => .bool false), ([], fun _ => .pointer (some ⟨b, 0, none⟩)), ([], fun _ => .int .i64 m2.stale), ([], fun _ => .pointer (some ⟨pw, 3, none⟩)), ([], fun _ => .int .i64 m2.stale), ([], fun _ => .bool false), ([], fun _ => .bool false)])
          (by kernel_rfl) ⟨by kernel_rfl, ⟨FreeV.d_ask1 _ rfl rfl enter_13 (fun β bs w h hd => (count_any _ b c r m2 (AtF.below HP.out.has.at_ h)).mono (fun e w2 ⟨e1, e2⟩ => ⟨e1, e2 ▸ h⟩)),
            FreeV.d_load _ rfl rfl (fun β bs w h hd => HP.out.var.load h rfl),
            FreeV.d_bin _ rfl rfl (fun _ xo yo w => cmp_neq3 xo yo w (by simp)),
            FreeV.d_ask1 _ rfl rfl enter_14 (fun β bs w h hd => (live_any _ b c r m2 (AtF.below HP.out.has.at_ h)).mono (fun e w2 ⟨e1, e2⟩ => ⟨e1, e2 ▸ h⟩)),
            FreeV.d_load _ rfl rfl (fun β bs w h hd => HP.out.var.load h rfl),
            FreeV.d_bin _ rfl rfl (fun _ xo yo w => cmp_neq3 xo yo w (by simp)),
            FreeV.d_ask1 _ rfl rfl enter_15 (fun β bs w h hd => (stale_any _ b c r m2 (AtF.below HP.out.has.at_ h)).mono (fun e w2 ⟨e1, e2⟩ => ⟨e1, e2 ▸ h⟩)),
            FreeV.d_load _ rfl rfl (fun β bs w h hd => HP.out.var.load h rfl),
            FreeV.d_bin _ rfl rfl (fun _ xo yo w => cmp_neq3 xo yo w (by simp)),
            trivial⟩,
            fun β => by kernel_rfl, fun β => by kernel_rfl, by kernel_rfl, fun β => by kernel_rfl, by kernel_rfl⟩ ((Below.refl _ _).drew) (fun β => Free.from_ 88 [.bool true, .bool false, .bool false, .pointer (some ⟨b, 0, none⟩), .int .i64 m2.count, .pointer (some ⟨pw, 1, none⟩), .int .i64 m2.count, .bool false, .bool false, .bool false, .pointer (some ⟨b, 0, none⟩), .int .i64 m2.live, .pointer (some ⟨pw, 2, none⟩), .int .i64 m2.live, .bool false, .bool false, .bool false, .pointer (some ⟨b, 0, none⟩), .int .i64 m2.stale, .pointer (some ⟨pw, 3, none⟩), .int .i64 m2.stale, .bool false, .bool false]) (fun β => by kernel_rfl) ?_
        intro β w9 h9
        have HP9 := Lib.hid (HP.out.later h9)
        clear h9 HP
        rw [Free.puts_from _ _ _ (Nat.le_of_ble_eq_true rfl)]
        simp only [List.take_succ_cons, List.take_zero, List.drop_succ_cons, List.drop_zero, List.cons_append, List.nil_append, List.length_cons, List.length_nil, Nat.reduceAdd]
        go_wp2_with fail
        go_roundw
        case rel => exact ⟨i + 1, m2, rc2, cp2, told2, ta2, tc2, by omega, rfl, by go_num, htl, HP9.out⟩
        case measure => simp [intOf]; omega
      · have HP := HS7
        clear HS7
        go_wp2_with fail
        rw [HW7.out]
        clear v0 v1 v2 v3 y0 y1 y2 y3 vf
        obtain ⟨w8, hw8⟩ : ∃ W, W = w7 := ⟨_, rfl⟩
        rw [← hw8] at HP ⊢
        refine FreeV.region_puts (S := (fun _ _ W => Below w8.heap.size w8 W)) (effs := [])
          (tab := [⟨4, fun _ => [.func (.func 13) #[] #[], .pointer (some ⟨b, 0, none⟩)], fun _ => .int .i64 m2.count, .ask⟩,
            ⟨6, fun _ => [.pointer (some ⟨pw, 1, none⟩)], fun _ => .int .i64 m2.count, .read⟩,
            ⟨7, fun _ => [.int .i64 m2.count, .int .i64 m2.count], fun _ => .bool false, .pure⟩,
            ⟨11, fun _ => [.func (.func 14) #[] #[], .pointer (some ⟨b, 0, none⟩)], fun _ => .int .i64 m2.live, .ask⟩,
            ⟨13, fun _ => [.pointer (some ⟨pw, 2, none⟩)], fun _ => .int .i64 m2.live, .read⟩,
            ⟨14, fun _ => [.int .i64 m2.live, .int .i64 m2.live], fun _ => .bool false, .pure⟩,
            ⟨18, fun _ => [.func (.func 15) #[] #[], .pointer (some ⟨b, 0, none⟩)], fun _ => .int .i64 m2.stale, .ask⟩,
            ⟨20, fun _ => [.pointer (some ⟨pw, 3, none⟩)], fun _ => .int .i64 m2.stale, .read⟩,
            ⟨21, fun _ => [.int .i64 m2.stale, .int .i64 m2.stale], fun _ => .bool false, .pure⟩])
          (vs := [([], fun _ => .bool true), ([], fun _ => .bool false), ([], fun _ => .bool false), ([], fun _ => .pointer (some ⟨b, 0, none⟩)), ([], fun _ => .int .i64 m2.count), ([], fun _ => .pointer (some ⟨pw, 1, none⟩)), ([], fun _ => .int .i64 m2.count), ([], fun _ => .bool false), ([], fun _ => .bool false), ([], fun _ => .bool false), ([], fun _ => .pointer (some ⟨b, 0, none⟩)), ([], fun _ => .int .i64 m2.live), ([], fun _ => .pointer (some ⟨pw, 2, none⟩)), ([], fun _ => .int .i64 m2.live), ([], fun _ => .bool false), ([], fun _ => .bool false), ([], fun _ => .bool false), ([], fun _ => .pointer (some ⟨b, 0, none⟩)), ([], fun _ => .int .i64 m2.stale), ([], fun _ => .pointer (some ⟨pw, 3, none⟩)), ([], fun _ => .int .i64 m2.stale), ([], fun _ => .bool false), ([], fun _ => .bool false)])
          (by kernel_rfl) ⟨by kernel_rfl, ⟨FreeV.d_ask1 _ rfl rfl enter_13 (fun β bs w h hd => (count_any _ b c r m2 (AtF.below HP.out.has.at_ h)).mono (fun e w2 ⟨e1, e2⟩ => ⟨e1, e2 ▸ h⟩)),
            FreeV.d_load _ rfl rfl (fun β bs w h hd => HP.out.var.load h rfl),
            FreeV.d_bin _ rfl rfl (fun _ xo yo w => cmp_neq3 xo yo w (by simp)),
            FreeV.d_ask1 _ rfl rfl enter_14 (fun β bs w h hd => (live_any _ b c r m2 (AtF.below HP.out.has.at_ h)).mono (fun e w2 ⟨e1, e2⟩ => ⟨e1, e2 ▸ h⟩)),
            FreeV.d_load _ rfl rfl (fun β bs w h hd => HP.out.var.load h rfl),
            FreeV.d_bin _ rfl rfl (fun _ xo yo w => cmp_neq3 xo yo w (by simp)),
            FreeV.d_ask1 _ rfl rfl enter_15 (fun β bs w h hd => (stale_any _ b c r m2 (AtF.below HP.out.has.at_ h)).mono (fun e w2 ⟨e1, e2⟩ => ⟨e1, e2 ▸ h⟩)),
            FreeV.d_load _ rfl rfl (fun β bs w h hd => HP.out.var.load h rfl),
            FreeV.d_bin _ rfl rfl (fun _ xo yo w => cmp_neq3 xo yo w (by simp)),
            trivial⟩,
            fun β => by kernel_rfl, fun β => by kernel_rfl, by kernel_rfl, fun β => by kernel_rfl, by kernel_rfl⟩ ((Below.refl _ _).drew) (fun β => Free.from_ 88 [.bool true, .bool false, .bool false, .pointer (some ⟨b, 0, none⟩), .int .i64 m2.count, .pointer (some ⟨pw, 1, none⟩), .int .i64 m2.count, .bool false, .bool false, .bool false, .pointer (some ⟨b, 0, none⟩), .int .i64 m2.live, .pointer (some ⟨pw, 2, none⟩), .int .i64 m2.live, .bool false, .bool false, .bool false, .pointer (some ⟨b, 0, none⟩), .int .i64 m2.stale, .pointer (some ⟨pw, 3, none⟩), .int .i64 m2.stale, .bool false, .bool false]) (fun β => by kernel_rfl) ?_
        intro β w9 h9
        have HP9 := Lib.hid (HP.out.later h9)
        clear h9 HP
        rw [Free.puts_from _ _ _ (Nat.le_of_ble_eq_true rfl)]
        simp only [List.take_succ_cons, List.take_zero, List.drop_succ_cons, List.drop_zero, List.cons_append, List.nil_append, List.length_cons, List.length_nil, Nat.reduceAdd]
        go_wp2_with fail
        go_roundw
        case rel => exact ⟨i + 1, m2, rc2, cp2, told, ta, tc, by omega, rfl, by go_num, by omega, HP9.out⟩
        case measure => simp [intOf]; omega
    · have i1 : ¬ (i : Int) < (l.length : Int) := by omega
      have hnil := hR.out.has.allocnil (by omega)
      have hcn := hR.out.has.ok.cnt
      have HV := Lib.hid hR.out.var
      clear hR
      go_wp2_with fail
      refine hnil.mono ?_
      rintro e w3 ⟨rfl, h3, k3⟩
      have HE : Hid (Has w b c r (i + 1) w3 m.ask ∧ Var w3 pw m rc cp) := ⟨h3, HV.out.of k3.size (k3.block pw HV.out.lt HX.out.pb HX.out.pc HX.out.pr)⟩
      clear hnil h3 k3 HV
      go_wp2_with fail
      refine FreeV.region_puts (S := (fun _ _ W => Below w3.heap.size w3 W)) (effs := [])
        (tab := [⟨1, fun _ => [.int .i64 (0 : Int), .int .i64 0], fun _ => .bool true, .pure⟩,
          ⟨4, fun _ => [.int .i64 (6 : Int), .int .i64 6], fun _ => .bool true, .pure⟩,
          ⟨8, fun _ => [.func (.func 13) #[] #[], .pointer (some ⟨b, 0, none⟩)], fun _ => .int .i64 (m.count + 1), .ask⟩,
          ⟨10, fun _ => [.pointer (some ⟨pw, 1, none⟩)], fun _ => .int .i64 m.count, .read⟩,
          ⟨11, fun _ => [.int .i64 m.count, .int .i64 1], fun _ => .int .i64 (m.count + 1), .pure⟩,
          ⟨12, fun _ => [.int .i64 (m.count + 1), .int .i64 (m.count + 1)], fun _ => .bool true, .pure⟩])
        (vs := [([], fun _ => .int .i64 (0 : Int)), ([], fun _ => .bool true), ([], fun _ => .bool true), ([], fun _ => .int .i64 (6 : Int)), ([], fun _ => .bool true), ([], fun _ => .bool true), ([], fun _ => .bool true), ([], fun _ => .pointer (some ⟨b, 0, none⟩)), ([], fun _ => .int .i64 (m.count + 1)), ([], fun _ => .pointer (some ⟨pw, 1, none⟩)), ([], fun _ => .int .i64 m.count), ([], fun _ => .int .i64 (m.count + 1)), ([], fun _ => .bool true), ([], fun _ => .bool true), ([], fun _ => .bool true)])
        (by kernel_rfl) ⟨by kernel_rfl, ⟨FreeV.d_bin _ rfl rfl (fun _ xo yo w => cmp_eql3 xo yo w (by decide)),
          FreeV.d_bin _ rfl rfl (fun _ xo yo w => cmp_eql25 xo yo w (by decide)),
          FreeV.d_ask1 _ rfl rfl enter_13 (fun β bs w h hd => (count_any _ b c r m.ask (AtF.below HE.out.1.at_ h)).mono (fun e w2 ⟨e1, e2⟩ => ⟨e1, e2 ▸ h⟩)),
          FreeV.d_load _ rfl rfl (fun β bs w h hd => HE.out.2.load h rfl),
          FreeV.d_bin _ rfl rfl (fun _ xo yo w => cmp_add3 xo yo w ⟨rfl, by omega, by omega⟩),
          FreeV.d_bin _ rfl rfl (fun _ xo yo w => cmp_eql3 xo yo w (by simp)),
          trivial⟩,
          fun β => by kernel_rfl, fun β => by kernel_rfl, by kernel_rfl, fun β => by kernel_rfl, by kernel_rfl⟩ ((Below.refl _ _).drew) (fun β => Free.from_ 116 [.int .i64 (0 : Int), .bool true, .bool true, .int .i64 (6 : Int), .bool true, .bool true, .bool true, .pointer (some ⟨b, 0, none⟩), .int .i64 (m.count + 1), .pointer (some ⟨pw, 1, none⟩), .int .i64 m.count, .int .i64 (m.count + 1), .bool true, .bool true] ++ [(4, .bool true)]) (fun β => by kernel_rfl) ?_
      intro β w9 h9
      have HB9 := Lib.hid (HE.out.1.later h9).below
      clear h9
      rw [FreeX.puts_append, Free.puts_from _ _ _ (Nat.le_of_ble_eq_true rfl)]
      simp only [List.take_succ_cons, List.take_zero, List.drop_succ_cons, List.drop_zero, List.cons_append, List.nil_append, List.length_cons, List.length_nil, Nat.reduceAdd]
      unfold Free.puts
      simp only [List.foldl_cons, List.foldl_nil]
      go_wp2_with fail
      go_ret
      exact ⟨rfl, HB9.out⟩
theorem plays_law (n : Int) (a : Option Addr) (l : List Ac) (cap : Nat) (w : World) (hT : TabAt w) (hL : Acts w a l) (hO : ActsOk l) :
    Calls Tryd.prog 3 #[.int .i64 n, .slice a l.length cap] w fun e w' => e = .returned (.bool true) ∧ Below w.heap.size w w' := by
  by_cases hlen : l.length ≤ 200
  · by_cases hm : 1 ≤ n ∧ n ≤ 300
    · obtain ⟨k, rfl⟩ : ∃ k : Nat, n = (k : Int) := ⟨n.toNat, by omega⟩
      exact plays_main k (by omega) (by omega) a l cap w hT hL hO hlen
    · have haw := awake_any w hT
      have h1 : (l.length : Int) ≤ 200 := by omega
      clear hT hL hO
      by_cases hb : n < 1 ∨ 65535 < n
      · have hnb := fun w => new_bad n hb w
        rcases hb with hb | hb
        · go_enter Tryd.func3, Tryd.ntmps3
          go_wp2_with fail
          refine haw.mono ?_
          rintro e w1 ⟨rfl, b1⟩
          have HB := Lib.hid b1
          clear b1 haw
          go_wp2_with fail
          refine (hnb _).mono ?_
          rintro e w2 ⟨rfl, rfl⟩
          go_wp2
          go_ret
          exact ⟨rfl, HB.out⟩
        · have q1 : ¬ n < 1 := by omega
          go_enter Tryd.func3, Tryd.ntmps3
          go_wp2_with fail
          refine haw.mono ?_
          rintro e w1 ⟨rfl, b1⟩
          have HB := Lib.hid b1
          clear b1 haw
          go_wp2_with fail
          refine (hnb _).mono ?_
          rintro e w2 ⟨rfl, rfl⟩
          go_wp2
          go_ret
          exact ⟨rfl, HB.out⟩
      · have q1 : ¬ n < 1 := by omega
        have q2 : ¬ 65535 < n := by omega
        have q3 : 300 < n := by omega
        go_enter Tryd.func3, Tryd.ntmps3
        go_wp2_with fail
        refine haw.mono ?_
        rintro e w1 ⟨rfl, b1⟩
        have HB := Lib.hid b1
        clear b1 haw
        go_wp2
        go_ret
        exact ⟨rfl, HB.out⟩
  · have haw := fun w2 h2 => awake_any w2 (hT.below (w' := w2) h2)
    have h1 : ¬ (l.length : Int) ≤ 200 := by omega
    clear hT hL hO
    go_enter Tryd.func3, Tryd.ntmps3
    go_wp2_with fail
    refine (haw _ (Below.refl _ _)).mono ?_
    rintro e w1 ⟨rfl, b1⟩
    have haw2 := haw _ b1
    have hsz := b1.size
    have HB := Lib.hid b1
    clear b1 haw
    go_wp2_with fail
    refine haw2.mono ?_
    rintro e w2 ⟨rfl, b2⟩
    have HE := Lib.hid (HB.out.trans (b2.mono hsz))
    clear b2
    go_wp2
    go_ret
    exact ⟨rfl, HE.out⟩
theorem playsLaw (a : Int) (_ha : (Lit.int .i64 a).wf = true) (ad : Option Addr) (l : List Ac) (cap : Nat) {w : World} (hL : Acts w ad l) (hO : ActsOk l) (_W : World) (hT : TabAt w) : Calls Tryd.prog 3 #[.int .i64 a, .slice ad l.length cap] w fun e w' => e = .returned (.bool true) ∧ Below w.heap.size w w' :=
  plays_law a ad l cap w hT hL hO
end Go.Proofs.YtnhpcakdnaoekaaDoor
