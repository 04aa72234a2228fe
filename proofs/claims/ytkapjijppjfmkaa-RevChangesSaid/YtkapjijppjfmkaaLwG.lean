/- The law RevChanges of few and short entries. Conditions: those that the law names itself. -/
import Derived.Test.YtkapjijppjfmkaaLwF
namespace Go.Proofs.Ytkapjijppjfmkaa
open Go.RowKit Go.Op
set_option maxRecDepth 100000

theorem enter_26 (xs : Array Value) (w : World) : (callFunc 26 xs).run Try.prog w = .ok (.enter 26 xs) w := by kernel_rfl
theorem live_bound {l : List En} (h : l.length ≤ 500) : (liveL l).length ≤ 1000 := Nat.le_trans (List.length_filter_le ..) (by omega)
set_option maxHeartbeats 2000000 in
theorem changes_yes (sp : Sp) (a : Option Addr) (l : List En) (c : Nat) (b : Option Addr) (m : List En) (d : Nat) (k : ByteArray) (w : World) (hE : Ents w a l) (hM : Ents w b m) (hF : FewE l) (hG : FewE m) (hsb : sp.brief = true) (hks : k.size ≤ 40) :
    Calls Try.prog 5 #[sp.v, .slice a l.length c, .slice b m.length d, .string k] w fun e w' => e = .returned (.bool true) ∧ Below w.heap.size w w' := by
  have HE := Lib.hid hE
  have HM := Lib.hid hM
  have K1 := Lib.hid (one_start w sp)
  clear hE hM
  simp only [Sp.v]
  have e0 := fewE_yes hF
  have e1 := fewE_yes hG
  have hl : l.length ≤ 70 := hF.1
  have hm : m.length ≤ 70 := hG.1
  have HK : Hid (∀ e ∈ l, e.key.size ≤ 1000000) := Lib.hid fun e he => Nat.le_trans (hF.2 e he).1 (by decide)
  have HKM : Hid (∀ e ∈ m, e.key.size ≤ 1000000) := Lib.hid fun e he => Nat.le_trans (hG.2 e he).1 (by decide)
  clear hF hG
  obtain ⟨s1, s2'⟩ := brief_yes hsb
  have d1 : decide ((40 : Int) < (k.size : Int)) = false := decide_eq_false (by omega)
  go_enter Try.func5, Try.ntmps5
  go_wp2_with fail
  refine (awake_any _).mono ?_
  rintro e w2 ⟨rfl, b2⟩
  have K2 := Lib.hid (K1.out.next b2)
  clear b2
  go_wp2_with fail
  refine (few_any a l c w2 (HE.out.below K2.out.1)).mono ?_
  rintro e w3 ⟨rfl, rfl⟩
  rw [e0]
  go_wp2_with fail
  refine (few_any b m d w2 (HM.out.below K2.out.1)).mono ?_
  rintro e w3 ⟨rfl, rfl⟩
  rw [e1]
  obtain ⟨c0, c1, c2⟩ := K2.out.s
  go_wp2_with fail
  refine (brief_any sp w2).mono ?_
  rintro e w3 ⟨rfl, b3⟩
  have K3 := Lib.hid (K2.out.next b3)
  rw [hsb]
  clear b3 c0 c1 c2
  clear d1
  obtain ⟨c0, c1, c2⟩ := K3.out.s
  go_wp2_with fail
  refine (of_any sp w3).mono ?_
  rintro e w5 ⟨rfl, b5⟩
  have K5 := Lib.hid (K3.out.next b5)
  clear b5 c0 c1 c2
  go_wp2_with fail
  refine (lawof_any a l c w5 (by omega) (HE.out.below K5.out.1)).mono ?_
  rintro e w6 ⟨v6, rfl, hO, b6⟩
  obtain ⟨a6, c6, rfl, hE6, _⟩ := hO.ents
  have K6 := Lib.hid (K5.out.next b6)
  clear b6 hO
  go_wp2_with fail
  refine (new_any 1 0 sp a6 l c6 w6 (by omega) HK.out hE6).mono ?_
  rintro e w7 ⟨R, rs, er, rfl, hR, _, b7, hc⟩
  have K7 := Lib.hid (K6.out.next b7)
  obtain ⟨W7, hst7, hW7, bW7, sW7⟩ := rev_new R rs w7
  simp only [Rm.zeroRow] at hst7
  have KW := Lib.hid (K7.out.next bW7)
  have H7 := Lib.hid hW7
  have HR7 := Lib.hid (hR.below bW7)
  obtain ⟨q1, q2, q3, q4⟩ : R.dead = false ∧ R.l.length ≤ 200 ∧ (∀ e ∈ R.l, e.key.size ≤ 1000000) ∧ Rise R.l := by
    rcases hc with ⟨hh, rfl, _⟩ | ⟨_, rfl, _⟩
    · exact ⟨rfl, by show l.length ≤ _; omega, HK.out, rise_of hh⟩
    · exact ⟨rfl, by show ([] : List En).length ≤ _; simp, fun e he => (by cases he), List.Pairwise.nil⟩
  obtain ⟨R2, er2, hap, hc2⟩ := apply_ahead 2 R rs m W7 q1 q2 (by omega) q3 HKM.out q4 HR7.out
  have HAP := Lib.hid hap
  have HC2 := Lib.hid hc2
  have HC := Lib.hid hc
  clear b7 bW7 hE6 hR hap hc2 hW7 q1 q2 q3 q4 hc
  go_wp2_with (refine wpList_run_store rfl 33 (.tmp 9) (.tmp 47) rfl _ _ rfl rfl W7 hst7 ?_)
  refine FreeX.region_puts (S := fun w' => Below W7.heap.size W7 w') (B0 := W7.heap.size) (w0 := W7.drew) (om := fun _ => 0) (olds := []) (far := farV)
    (tabs := fun β => [(0, .load 33 ⟨w7.heap.size, 0, none⟩ (R.v rs)),
      (2, .rel 12 [.slice b m.length d] (IsE 0 m)),
      (3, .rel 22 [R.v rs, .int .i64 2, (β 2).2] (IsT R2 er2)),
      (5, .gen [(β 3).2] (tup 0 (β 3).2)),
      (6, .gen [(β 3).2] (tup 1 (β 3).2)),
      (7, .new 33 Rm.none.zeroRow),
      (8, .put 33 (.own 7) (tup 0 (β 3).2) (rowOf (tup 0 (β 3).2)))])
    (by kernel_rfl) ⟨fun β => ⟨by kernel_rfl, ⟨fun w' h _ => rev_get (H7.out.below h sW7), ⟨enter_12, fun w' h _ => (lawof_any b m d w' (by omega) (HM.out.below (KW.out.next h).1)).mono (fun e w2 ⟨v, he, hO, hb⟩ => ⟨v, he, (IsE.of hO).mono (Nat.zero_le _), hb, fun x _ hx => far_row hO hx⟩)⟩, ?e22, genx_ext _ rfl rfl (fun w' _ hf => hf 3 _ rfl (by kernel_rfl)) (by decide), genx_ext _ rfl rfl (fun w' _ hf => hf 3 _ rfl (by kernel_rfl)) (by decide), alloc33, fun bb w' zs _ hf hz hh => put_tup (hf 3 _ rfl (by kernel_rfl)) bb zs hz hh, trivial⟩,
      by kernel_rfl, by kernel_rfl, by kernel_rfl, fun w1 w2 h hb => h.trans hb, Nat.le_refl _, fun _ _ h => (by cases h), fun _ _ _ _ h => (by cases h), FreeX.rel_all (C := fun Φ => ∀ v w w', Φ v w → Below w.heap.size w w' → Φ v w') ⟨fun v w w' h hb => h.below hb, fun v w w' h hb => h.below hb, trivial⟩, fun _ _ _ _ _ _ _ _ h => (by cases h), fun i t j x vs _ => FreeX.rel_all (C := fun Φ => ∀ v w b zs, Φ v w → farV v b → Φ v (w.setCells b 0 zs)) ⟨fun v w b zs h hf => h.setV hf zs, fun v w b zs h hf => h.set hf zs, trivial⟩, FreeX.rel_all (C := fun Φ => ∀ v w b, Φ v w → w.heap.size ≤ b → farV v b) ⟨fun v w b h hb => h.farV hb, fun v w b h hb => h.far hb, trivial⟩⟩, ?loc, fun _ _ _ => rfl⟩
    (drew_below (Below.refl _ _)) rfl (fun _ _ h => (by cases h)) (fun β => Free.from_ 50 [R.v rs, .slice b m.length d, (β 2).2, (β 3).2] ++ [(49, (β 3).2), (54, tup 0 (β 3).2), (55, tup 1 (β 3).2), (11, .pointer (some ⟨(β 7).1, 0, none⟩)), (12, tup 1 (β 3).2)]) (fun β => by kernel_rfl) ?_
  case loc =>
    intro β i nn j h
    refine FreeX.look_cons (fun _ => rfl) (FreeX.look_cons (fun _ => rfl) (FreeX.look_cons (fun hj => ?_) (FreeX.look_cons (fun hj => ?_) (FreeX.look_cons (fun hj => ?_) (FreeX.look_cons (fun _ => rfl) (FreeX.look_cons (fun hj => ?_) (rfl)))))))
    · subst hj
      rw [FreeX.upd_ne (k := 2) h (by kernel_rfl)]
    · subst hj
      rw [FreeX.upd_ne (k := 3) h (by kernel_rfl)]
    · subst hj
      rw [FreeX.upd_ne (k := 3) h (by kernel_rfl)]
    · subst hj
      rw [FreeX.upd_ne (k := 3) h (by kernel_rfl)]
  case e22 =>
    refine ⟨enter_22, fun w' h hf => ?_⟩
    obtain ⟨ad, cc, e3, hE3, _⟩ : IsE 0 m (β 2).2 w' := hf 2 _ rfl (by kernel_rfl)
    rw [e3]
    refine (HAP.out ad cc w' h hE3).mono ?_
    rintro e w2 ⟨s', rfl, hrev, hfr, hb⟩
    exact ⟨_, rfl, ⟨s', rfl, hrev⟩, hb, fun x _ hx => far_fresh R2 s' _ hfr hx⟩
  intro β w8 h1 _ _ h4 _ _ h7
  have d8 := h4 7 Rm.none.zeroRow rfl
  obtain ⟨rs2, e4, hrev2⟩ : IsT R2 er2 (β 3).2 w8 := h7 3 _ rfl
  have hC8 : Free.Holds (β 7).1 (rowOf (tup 0 (β 3).2)) w8 := d8.2.2
  have hp8 := d8.2.1
  rw [FreeX.puts_append, Free.puts_from _ _ _ (Nat.le_of_ble_eq_true rfl)]
  simp only [List.take_succ_cons, List.take_zero, List.drop_succ_cons, List.drop_zero, List.cons_append, List.nil_append, List.length_cons, List.length_nil, Nat.reduceAdd]
  unfold Free.puts
  simp only [List.foldl_cons, List.foldl_nil]
  rw [e4] at hC8 ⊢
  have hC8' : Free.Holds (β 7).1 (R2.row rs2) w8 := hC8
  have et0 : tup 0 (.tuple #[R2.v rs2, .int .i64 er2]) = R2.v rs2 := rfl
  have et1 : tup 1 (.tuple #[R2.v rs2, .int .i64 er2]) = .int .i64 er2 := rfl
  rw [et0, et1]
  clear e4 h4 h7 d8 hC8 et0 et1
  generalize (β 7).1 = p8 at hC8' hp8 ⊢
  generalize (β 2).2 = x3
  have H8 := Lib.hid hC8'
  have K8 := Lib.hid (KW.out.next h1)
  have HR8 := Lib.hid hrev2
  have H78 := Lib.hid (H7.out.below h1 sW7)
  have HR78 := Lib.hid (HR7.out.below h1)
  have n8 := h1.size
  clear h1 hC8' hrev2 HAP HR7 H7 hst7
  rcases HC.out with ⟨hh, hRe, her⟩ | ⟨hh, hRe, her⟩
  case inr =>
    subst her
    have hz : er2 = 0 ∨ er2 = 1 := by
      rcases HC2.out with ⟨_, _, h⟩ | ⟨_, _, h⟩
      · exact .inl h
      · exact .inr h
    clear HC2 HC hRe
    go_wp2_with fail
    go_ret
    exact ⟨rfl, K8.out.1⟩
  subst her
  have HRe := Lib.hid hRe
  clear hRe HC
  rcases HC2.out with ⟨h2, hR2, her2⟩ | ⟨h2, hR2, her2⟩
  case inr =>
    subst her2
    clear hR2 HC2
    go_wp2_with fail
    go_ret
    exact ⟨rfl, K8.out.1⟩
  subst her2
  obtain ⟨L, hL⟩ : ∃ L, L = changedL R.l m := ⟨_, rfl⟩
  obtain ⟨rt, hrt⟩ : ∃ rt, rt = rated R.rate m.length := ⟨_, rfl⟩
  obtain ⟨T2, hT2⟩ : ∃ T2, T2 = build (L.map En.key) := ⟨_, rfl⟩
  obtain ⟨T, hT⟩ : ∃ T, T = build (l.map En.key) := ⟨_, rfl⟩
  rw [← hL, ← hrt, ← hT2] at hR2
  have HRe2 := HRe.out
  rw [← hT] at HRe2
  have hRl : R.l = l := by rw [HRe2]
  have hRs : R.sp = sp := by rw [HRe2]
  rw [hRl] at hL
  rw [hRs] at hR2 h2
  have hLl := changed_length m l
  rw [← hL] at hLl
  have hL5 : L.length ≤ 500 := by omega
  have HUP : Hid (upV l m k m.length = getV L k) := Lib.hid (by rw [hL]; exact upV_end fun e he => (has_of h2 he).2)
  have HT := Lib.hid hT
  have HT2 := Lib.hid hT2
  have HR2e := Lib.hid hR2
  have HRE := Lib.hid HRe2
  clear hL hrt hT hT2 hR2 HRe HRe2 hRl hRs h2 hLl HC2
  obtain rfl := HRE.out
  obtain rfl := HR2e.out
  have hl8 := rev_get H78.out
  have hg := get_any _ rs k w8 (by show l.length ≤ _; omega) HR78.out HT.out (by omega)
  have hz : upV l m k 0 = getV l k := upV_zero l m k
  simp only at hg
  rw [← hz] at hg
  have HU : Hid (∃ p : ByteArray × Bool, p = upV l m k 0) := Lib.hid ⟨_, rfl⟩
  obtain ⟨⟨gv, gb⟩, hgg⟩ := HU.out
  rw [← hgg] at hg
  simp only at hg
  have HG0 := Lib.hid hgg
  clear hz hgg HU
  go_wp2_with (refine wpList_run_load rfl 33 (.tmp 9) rfl _ _ rfl hl8 ?_)
  refine hg.mono ?_
  rintro e w9 ⟨rfl, b9⟩
  have K9 := Lib.hid (K8.out.next b9)
  have HM9 := Lib.hid (HM.out.below K9.out.1)
  have n9 := b9.size
  have H9 := Lib.hid (H8.out.below b9 hp8)
  have HR9 := Lib.hid (HR8.out.below b9)
  clear b9 hl8 hg H8 H78 HR8 HR78
  go_wp2_with fail
  go_loopw [13, 14, 15] (fun vv ov iv wr => ∃ (i : Nat) (p : ByteArray × Bool), iv = .int .i64 (i : Int) ∧ i ≤ m.length ∧ vv = .string p.1 ∧ ov = .bool p.2 ∧ Hid (p = upV l m k i) ∧ Below w9.heap.size w9 wr) (fun _ _ iv _ => m.length - (intOf iv).toNat)
  case atStart => exact ⟨0, (gv, gb), rfl, by omega, rfl, rfl, HG0, Below.refl _ _⟩
  case round =>
    obtain ⟨i, ⟨pv, pb⟩, rfl, hil, rfl, rfl, HPU, hbr⟩ := hrel
    by_cases h1 : i < m.length
    · have i1 : (i : Int) < (m.length : Int) := by omega
      have HU2 : Hid (upV l m k (i + 1) = stepV k (pv, pb) m[i]) := Lib.hid (by rw [upV_next h1, ← HPU.out])
      obtain ⟨g, off, rfl, hlt, hc⟩ := (HM9.out.below hbr).at h1
      generalize m[i] = x at hc HU2
      obtain ⟨xk, xv, xg⟩ := x
      obtain ⟨c1, c2, c3⟩ := hc
      simp only at c1 c2 c3
      by_cases h2 : xk = k
      · have e1 : (xk.toList == k.toList) = true := by rw [same_text]; exact decide_eq_true h2
        have HU3 : Hid ((xv, !xg) = upV l m k (i + 1)) := Lib.hid (by rw [HU2.out]; unfold stepV; rw [if_pos h2])
        clear h2 HU2 HPU
        go_wp2_with fail
        go_quiet (fail)
        go_wp2
        go_roundw
        case rel => exact ⟨i + 1, (xv, !xg), by go_num, by omega, rfl, rfl, HU3, below_drewN hbr _⟩
        case measure => simp [intOf]; omega
      · have e1 : (xk.toList == k.toList) = false := by rw [same_text]; exact decide_eq_false h2
        have HU3 : Hid ((pv, pb) = upV l m k (i + 1)) := Lib.hid (by rw [HU2.out]; unfold stepV; rw [if_neg h2])
        clear h2 HU2 HPU
        go_wp2
        go_roundw
        case rel => exact ⟨i + 1, (pv, pb), by go_num, by omega, rfl, rfl, HU3, hbr⟩
        case measure => simp [intOf]; omega
    · have i1 : ¬ (i : Int) < (m.length : Int) := by omega
      have hi : i = m.length := by omega
      have HPG : Hid ((pv, pb) = getV L k) := Lib.hid (by rw [HPU.out, hi, HUP.out])
      clear HPU hi
      have H10 := Lib.hid (H9.out.below hbr (by omega))
      have HR10 := Lib.hid (HR9.out.below hbr)
      have K10 := Lib.hid (K9.out.next hbr)
      have n10 := hbr.size
      have hl10 := rev_get H10.out
      have hg := get_any _ rs2 k wr hL5 HR10.out HT2.out (by omega)
      simp only at hg
      rw [← HPG.out] at hg
      simp only at hg
      clear HPG H9 HR9 K9 HM9 hbr
      go_wp2_with (refine wpList_run_load rfl 33 (.tmp 11) rfl _ _ rfl hl10 ?_)
      refine hg.mono ?_
      rintro e w0 ⟨rfl, b0⟩
      have H8 := Lib.hid (H10.out.below b0 (by omega))
      have HR2 := Lib.hid (HR10.out.below b0)
      have KF := Lib.hid (K10.out.next b0)
      have n0 := b0.size
      clear b0 hl10 hg H10 HR10 K10
      go_wp2_with fail
      refine FreeX.region_puts (S := fun w' => Below w0.heap.size w0 w') (B0 := w0.heap.size) (w0 := w0.drew) (om := fun _ => 0) (olds := []) (far := fun _ _ => True)
        (tabs := fun β => [(2, .cmp .eql 9 (.string pv) (.string pv) (.bool true)),
          (6, .cmp .eql 4 (.bool pb) (.bool pb) (.bool true)),
          (9, .load 33 ⟨p8, 0, none⟩ ((Rm.mk 2 rt sp false L T2).v rs2)),
          (10, .call 17 [(Rm.mk 2 rt sp false L T2).v rs2] (.int .i64 ((liveL L).length : Int))),
          (11, .load 33 ⟨p8, 0, none⟩ ((Rm.mk 2 rt sp false L T2).v rs2)),
          (12, .call 26 [] (whole.v)),
          (13, .rel 20 [(Rm.mk 2 rt sp false L T2).v rs2, whole.v, .int .i64 1000] (IsP (pairsL L whole 1000))),
          (14, .gen [(β 13).2] (.int .i64 ((liveL L).length : Int))),
          (15, .cmp .eql 3 (.int .i64 ((liveL L).length : Int)) (.int .i64 ((liveL L).length : Int)) (.bool true))])
        (by kernel_rfl) ⟨fun β => ⟨by kernel_rfl, ⟨fun xo yo w => cmp_eql9 xo yo w (by simp), fun xo yo w => cmp_eql4 xo yo w (by simp), fun w' h _ => rev_get (H8.out.below h (by omega)), ⟨enter_17, fun w' h _ => nlive_any ⟨2, rt, sp, false, L, T2⟩ rs2 w' (by show L.length ≤ _; omega) (HR2.out.below h)⟩, fun w' h _ => rev_get (H8.out.below h (by omega)), ⟨enter_26, fun w' _ _ => whole_any w'⟩, ⟨enter_20, fun w' h _ => (pairs_any ⟨2, rt, sp, false, L, T2⟩ rs2 whole 1000 w' (by show L.length ≤ _; omega) (HR2.out.below h)).mono (fun e w2 ⟨v, he, hO, hb⟩ => ⟨v, he, IsP.of hO, hb, fun _ _ _ => trivial⟩)⟩, genx_lenF _ rfl rfl (fun ty w' h hf => by obtain ⟨ad, cc, e1, _⟩ : IsP (pairsL L whole 1000) (β 13).2 w' := hf 13 _ rfl (by kernel_rfl); rw [e1, pairs_whole (live_bound hL5)]; exact len_51 _ _ _ _ _), fun xo yo w => cmp_eql3 xo yo w (by simp), trivial⟩,
          by kernel_rfl, by kernel_rfl, by kernel_rfl, fun w1 w2 h hb => h.trans hb, Nat.le_refl _, fun _ _ h => (by cases h), fun _ _ _ _ h => (by cases h), FreeX.rel_all (C := fun Φ => ∀ v w w', Φ v w → Below w.heap.size w w' → Φ v w') ⟨fun v w w' h hb => h.below hb, trivial⟩, fun _ _ _ _ _ _ _ _ h => (by cases h), fun i t j x vs h => absurd h (FreeX.no_own (by kernel_rfl) i t j x vs), fun _ _ _ _ _ _ _ _ => trivial⟩, ?loc, fun _ _ _ => rfl⟩
        (drew_below (Below.refl _ _)) rfl (fun _ _ h => (by cases h)) (fun β => Free.from_ 104 [.string pv, .string pv, .bool true, .bool true, .bool pb, .bool pb, .bool true, .bool true, .bool true, (Rm.mk 2 rt sp false L T2).v rs2, .int .i64 ((liveL L).length : Int), (Rm.mk 2 rt sp false L T2).v rs2, whole.v, (β 13).2, .int .i64 ((liveL L).length : Int), .bool true, .bool true] ++ [(8, .bool true)]) (fun β => by kernel_rfl) ?_
      case loc =>
        intro β i nn j h
        refine FreeX.look_cons (fun _ => rfl) (FreeX.look_cons (fun _ => rfl) (FreeX.look_cons (fun _ => rfl) (FreeX.look_cons (fun _ => rfl) (FreeX.look_cons (fun _ => rfl) (FreeX.look_cons (fun _ => rfl) (FreeX.look_cons (fun _ => rfl) (FreeX.look_cons (fun hj => ?_) (FreeX.look_cons (fun _ => rfl) (rfl)))))))))
        · subst hj
          rw [FreeX.upd_ne (k := 13) h (by kernel_rfl)]
      intro β w12 h12 _ _ _ _ _ _
      rw [FreeX.puts_append, Free.puts_from _ _ _ (Nat.le_of_ble_eq_true rfl)]
      simp only [List.take_succ_cons, List.take_zero, List.drop_succ_cons, List.drop_zero, List.cons_append, List.nil_append, List.length_cons, List.length_nil, Nat.reduceAdd]
      unfold Free.puts
      simp only [List.foldl_cons, List.foldl_nil]
      go_wp2_with fail
      go_ret
      exact ⟨rfl, (KF.out.next h12).1⟩
theorem changes_any (sp : Sp) (a : Option Addr) (l : List En) (c : Nat) (b : Option Addr) (m : List En) (d : Nat) (k : ByteArray) (w : World) (hE : Ents w a l) (hM : Ents w b m) :
    Calls Try.prog 5 #[sp.v, .slice a l.length c, .slice b m.length d, .string k] w fun e w' => e = .returned (.bool true) ∧ Below w.heap.size w w' := by
  by_cases h : FewE l ∧ FewE m ∧ sp.brief = true ∧ k.size ≤ 40
  · exact changes_yes sp a l c b m d k w hE hM h.1 h.2.1 h.2.2.1 h.2.2.2
  · exact changes_no sp a l c b m d k w hE hM fun h1 h2 h3 h4 => h ⟨h1, h2, h3, h4⟩
end Go.Proofs.Ytkapjijppjfmkaa
