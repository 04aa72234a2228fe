/- The law RevApplies of few and short entries. Conditions: those that the law names itself. -/
import Derived.Test.YtkapjijppjfmkaaLwC
namespace Go.Proofs.Ytkapjijppjfmkaa
open Go.RowKit Go.Op
set_option maxRecDepth 100000

/-- A revision of the reference, as an answer. -/
def IsF (R : Fm) (v : Value) (w : World) : Prop := ∃ ad cc, v = R.v ad cc ∧ Ents w ad R.l
theorem IsF.below {R : Fm} {v : Value} {w w' : World} (h : IsF R v w) (hb : Below w.heap.size w w') : IsF R v w' := by
  obtain ⟨ad, cc, rfl, h1⟩ := h
  exact ⟨ad, cc, rfl, h1.below hb⟩
set_option maxHeartbeats 2000000 in
theorem applies_yes (ver rate : Int) (sp : Sp) (a : Option Addr) (l : List En) (c : Nat) (b : Option Addr) (m : List En) (d : Nat) (next : Int) (w : World) (hE : Ents w a l) (hM : Ents w b m) (hF : FewE l) (hG : FewE m) (hsb : sp.brief = true) :
    Calls Try.prog 4 #[.int .i64 ver, .int .i64 rate, sp.v, .slice a l.length c, .slice b m.length d, .int .i64 next] w fun e w' => e = .returned (.bool true) ∧ Below w.heap.size w w' := by
  have HE := Lib.hid hE
  have HM := Lib.hid hM
  have K1 := Lib.hid (one_start w sp)
  clear hE hM
  simp only [Sp.v]
  have e0 := fewE_yes hF
  have e1 := fewE_yes hG
  have hl : l.length ≤ 70 := hF.1
  have hm : m.length ≤ 70 := hG.1
  have HK : Hid (∀ e ∈ l, e.key.size ≤ 1000000) := Lib.hid fun e he => Nat.le_trans (hF.2 e he).1 (by decide)
  have HKM : Hid (∀ e ∈ m, e.key.size ≤ 1000000) := Lib.hid fun e he => Nat.le_trans (hG.2 e he).1 (by decide)
  clear hF hG
  obtain ⟨s1, s2'⟩ := brief_yes hsb
  go_enter Try.func4, Try.ntmps4
  go_wp2_with fail
  refine (awake_any _).mono ?_
  rintro e w2 ⟨rfl, b2⟩
  have K2 := Lib.hid (K1.out.next b2)
  clear b2
  go_wp2_with fail
  refine (few_any a l c w2 (HE.out.below K2.out.1)).mono ?_
  rintro e w3 ⟨rfl, rfl⟩
  rw [e0]
  go_wp2_with fail
  refine (few_any b m d w2 (HM.out.below K2.out.1)).mono ?_
  rintro e w3 ⟨rfl, rfl⟩
  rw [e1]
  obtain ⟨c0, c1, c2⟩ := K2.out.s
  go_wp2_with fail
  refine (brief_any sp w2).mono ?_
  rintro e w3 ⟨rfl, b3⟩
  have K3 := Lib.hid (K2.out.next b3)
  rw [hsb]
  clear b3 c0 c1 c2
  obtain ⟨c0, c1, c2⟩ := K3.out.s
  have hmd := made_any ver rate sp a l c w3 (by omega) (HE.out.below K3.out.1) HK.out (by omega) (by omega)
  unfold madeV at hmd
  cases hh : rightB sp l with
  | false =>
    rw [hh, if_neg (by decide)] at hmd
    go_wp2_with fail
    refine hmd.mono ?_
    rintro e w4 ⟨rfl, b4⟩
    obtain ⟨W4, hst4, _, bW4, sW4⟩ := fm_new ⟨0, 0, zero, false, []⟩ none 0 w4
    unfold fmZero at hst4
    have K4 := Lib.hid ((K3.out.next b4).next bW4)
    clear b4 bW4 hmd c0 c1 c2
    obtain ⟨c0, c1, c2⟩ := K4.out.s
    go_wp2_with (refine wpList_run_store rfl 41 (.tmp 13) (.tmp 45) rfl _ _ rfl rfl W4 hst4 ?_)
    refine (of_any sp W4).mono ?_
    rintro e w5 ⟨rfl, b5⟩
    have K5 := Lib.hid (K4.out.next b5)
    clear b5 c0 c1 c2
    go_wp2_with fail
    refine (lawof_any a l c w5 (by omega) (HE.out.below K5.out.1)).mono ?_
    rintro e w6 ⟨v6, rfl, hO, b6⟩
    obtain ⟨a6, c6, rfl, hE6, _⟩ := hO.ents
    have K6 := Lib.hid (K5.out.next b6)
    clear b6 hO
    go_wp2_with fail
    refine (new_any ver rate sp a6 l c6 w6 (by omega) HK.out hE6).mono ?_
    rintro e w7 ⟨R, rs, er, rfl, hR, _, b7, hc⟩
    rcases hc with ⟨h, _⟩ | ⟨_, hRe, rfl⟩
    · rw [hh] at h; cases h
    have K7 := Lib.hid (K6.out.next b7)
    clear b7 hE6 hR hRe
    obtain ⟨W7, hst7, _, bW7, sW7⟩ := rev_new R rs w7
    simp only [Rm.zeroRow] at hst7
    have KW := Lib.hid (K7.out.next bW7)
    clear bW7
    go_wp2_with (refine wpList_run_store rfl 33 (.tmp 15) (.tmp 55) rfl _ _ rfl rfl W7 hst7 ?_)
    go_ret
    exact ⟨rfl, KW.out.1⟩
  | true =>
  rw [hh, if_pos rfl] at hmd
  go_wp2_with fail
  refine hmd.mono ?_
  rintro e w4 ⟨rfl, b4⟩
  obtain ⟨W4, hst4, hW4, bW4, sW4⟩ := fm_new ⟨ver, rate, sp, false, l⟩ a c w4
  unfold fmZero at hst4
  have K4 := Lib.hid ((K3.out.next b4).next bW4)
  have HF4 := Lib.hid hW4
  clear b4 bW4 hmd c0 c1 c2 hW4
  obtain ⟨c0, c1, c2⟩ := K4.out.s
  go_wp2_with (refine wpList_run_store rfl 41 (.tmp 13) (.tmp 45) rfl _ _ rfl rfl W4 hst4 ?_)
  refine (of_any sp W4).mono ?_
  rintro e w5 ⟨rfl, b5⟩
  have K5 := Lib.hid (K4.out.next b5)
  clear c0 c1 c2
  go_wp2_with fail
  refine (lawof_any a l c w5 (by omega) (HE.out.below K5.out.1)).mono ?_
  rintro e w6 ⟨v6, rfl, hO, b6⟩
  obtain ⟨a6, c6, rfl, hE6, _⟩ := hO.ents
  have K6 := Lib.hid (K5.out.next b6)
  clear hO
  go_wp2_with fail
  refine (new_any ver rate sp a6 l c6 w6 (by omega) HK.out hE6).mono ?_
  rintro e w7 ⟨R, rs, er, rfl, hR, _, b7, hc⟩
  rcases hc with ⟨_, hRe, rfl⟩ | ⟨h, _⟩
  case inr => rw [hh] at h; cases h
  have K7 := Lib.hid (K6.out.next b7)
  obtain ⟨W7, hst7, hW7, bW7, sW7⟩ := rev_new R rs w7
  simp only [Rm.zeroRow] at hst7
  have KW := Lib.hid (K7.out.next bW7)
  have b47 : Below W4.heap.size W4 W7 := ((b5.trans (b6.mono b5.size)).trans (b7.mono (Nat.le_trans b5.size b6.size))).trans (bW7.mono (Nat.le_trans b5.size (Nat.le_trans b6.size b7.size)))
  have HF7 := Lib.hid (HF4.out.below b47 sW4)
  have n47 := b47.size
  have H7 := Lib.hid hW7
  have HR7 := Lib.hid (hR.below bW7)
  obtain ⟨T, hT⟩ : ∃ T, T = build (l.map En.key) := ⟨_, rfl⟩
  rw [← hT] at hRe
  have HRe := Lib.hid hRe
  obtain ⟨R2, er2, hap, hc2⟩ := apply_known ver rate next sp l T rs m W7 (by omega) (by omega) HK.out HKM.out (rise_of hh) (by rw [← HRe.out]; exact HR7.out)
  rw [← HRe.out] at hap
  have HAP := Lib.hid hap
  have HC2 := Lib.hid hc2
  clear b5 b6 b7 bW7 b47 hE6 hR hRe hap hc2 hW7 HF4
  go_wp2_with (refine wpList_run_store rfl 33 (.tmp 15) (.tmp 55) rfl _ _ rfl rfl W7 hst7 ?_)
  refine FreeX.region_puts (S := fun w' => Below W7.heap.size W7 w') (B0 := W7.heap.size) (w0 := W7.drew) (om := fun _ => 0) (olds := []) (far := farV)
    (tabs := fun β => [(0, .load 33 ⟨w7.heap.size, 0, none⟩ (R.v rs)),
      (3, .rel 12 [.slice b m.length d] (IsE 0 m)),
      (4, .rel 22 [R.v rs, .int .i64 next, (β 3).2] (IsT R2 er2)),
      (6, .gen [(β 4).2] (tup 0 (β 4).2)),
      (7, .gen [(β 4).2] (tup 1 (β 4).2)),
      (8, .new 33 Rm.none.zeroRow),
      (9, .put 33 (.own 8) (tup 0 (β 4).2) (rowOf (tup 0 (β 4).2)))])
    (by kernel_rfl) ⟨fun β => ⟨by kernel_rfl, ⟨fun w' h _ => rev_get (H7.out.below h sW7), ⟨enter_12, fun w' h _ => (lawof_any b m d w' (by omega) (HM.out.below (KW.out.next h).1)).mono (fun e w2 ⟨v, he, hO, hb⟩ => ⟨v, he, (IsE.of hO).mono (Nat.zero_le _), hb, fun x _ hx => far_row hO hx⟩)⟩, ?e22, genx_ext _ rfl rfl (fun w' _ hf => hf 4 _ rfl (by kernel_rfl)) (by decide), genx_ext _ rfl rfl (fun w' _ hf => hf 4 _ rfl (by kernel_rfl)) (by decide), alloc33, fun bb w' zs _ hf hz hh => put_tup (hf 4 _ rfl (by kernel_rfl)) bb zs hz hh, trivial⟩,
      by kernel_rfl, by kernel_rfl, by kernel_rfl, fun w1 w2 h hb => h.trans hb, Nat.le_refl _, fun _ _ h => (by cases h), fun _ _ _ _ h => (by cases h), FreeX.rel_all (C := fun Φ => ∀ v w w', Φ v w → Below w.heap.size w w' → Φ v w') ⟨fun v w w' h hb => h.below hb, fun v w w' h hb => h.below hb, trivial⟩, fun _ _ _ _ _ _ _ _ h => (by cases h), fun i t j x vs _ => FreeX.rel_all (C := fun Φ => ∀ v w b zs, Φ v w → farV v b → Φ v (w.setCells b 0 zs)) ⟨fun v w b zs h hf => h.setV hf zs, fun v w b zs h hf => h.set hf zs, trivial⟩, FreeX.rel_all (C := fun Φ => ∀ v w b, Φ v w → w.heap.size ≤ b → farV v b) ⟨fun v w b h hb => h.farV hb, fun v w b h hb => h.far hb, trivial⟩⟩, ?loc, fun _ _ _ => rfl⟩
    (drew_below (Below.refl _ _)) rfl (fun _ _ h => (by cases h)) (fun β => Free.from_ 70 [R.v rs, .int .i64 next, .slice b m.length d, (β 3).2, (β 4).2] ++ [(69, (β 4).2), (75, tup 0 (β 4).2), (76, tup 1 (β 4).2), (17, .pointer (some ⟨(β 8).1, 0, none⟩)), (18, tup 1 (β 4).2)]) (fun β => by kernel_rfl) ?_
  case loc =>
    intro β i nn j h
    refine FreeX.look_cons (fun _ => rfl) (FreeX.look_cons (fun _ => rfl) (FreeX.look_cons (fun hj => ?_) (FreeX.look_cons (fun hj => ?_) (FreeX.look_cons (fun hj => ?_) (FreeX.look_cons (fun _ => rfl) (FreeX.look_cons (fun hj => ?_) (rfl)))))))
    · subst hj
      rw [FreeX.upd_ne (k := 3) h (by kernel_rfl)]
    · subst hj
      rw [FreeX.upd_ne (k := 4) h (by kernel_rfl)]
    · subst hj
      rw [FreeX.upd_ne (k := 4) h (by kernel_rfl)]
    · subst hj
      rw [FreeX.upd_ne (k := 4) h (by kernel_rfl)]
  case e22 =>
    refine ⟨enter_22, fun w' h hf => ?_⟩
    obtain ⟨ad, cc, e3, hE3, _⟩ : IsE 0 m (β 3).2 w' := hf 3 _ rfl (by kernel_rfl)
    rw [e3]
    refine (HAP.out ad cc w' h hE3).mono ?_
    rintro e w2 ⟨s', rfl, hrev, hfr, hb⟩
    exact ⟨_, rfl, ⟨s', rfl, hrev⟩, hb, fun x _ hx => far_fresh R2 s' _ hfr hx⟩
  intro β w8 h1 _ _ h4 _ _ h7
  have d8 := h4 8 Rm.none.zeroRow rfl
  obtain ⟨rs2, e4, hrev2⟩ : IsT R2 er2 (β 4).2 w8 := h7 4 _ rfl
  have hC8 : Free.Holds (β 8).1 (rowOf (tup 0 (β 4).2)) w8 := d8.2.2
  have hp8 := d8.2.1
  rw [FreeX.puts_append, Free.puts_from _ _ _ (Nat.le_of_ble_eq_true rfl)]
  simp only [List.take_succ_cons, List.take_zero, List.drop_succ_cons, List.drop_zero, List.cons_append, List.nil_append, List.length_cons, List.length_nil, Nat.reduceAdd]
  unfold Free.puts
  simp only [List.foldl_cons, List.foldl_nil]
  rw [e4] at hC8 ⊢
  have hC8' : Free.Holds (β 8).1 (R2.row rs2) w8 := hC8
  have et0 : tup 0 (.tuple #[R2.v rs2, .int .i64 er2]) = R2.v rs2 := rfl
  have et1 : tup 1 (.tuple #[R2.v rs2, .int .i64 er2]) = .int .i64 er2 := rfl
  rw [et0, et1]
  clear e4 h4 h7 d8 hC8 et0 et1
  generalize (β 8).1 = p8 at hC8' hp8 ⊢
  generalize (β 3).2 = x3
  have H8 := Lib.hid hC8'
  have K8 := Lib.hid (KW.out.next h1)
  have HR8 := Lib.hid hrev2
  have H78 := Lib.hid (H7.out.below h1 sW7)
  have HF8 := Lib.hid (HF7.out.below h1 (by omega))
  have HR78 := Lib.hid (HR7.out.below h1)
  have n8 := h1.size
  clear h1 hC8' hrev2
  obtain ⟨c0, c1, c2⟩ := K8.out.s
  go_wp2_with fail
  refine (may_any sp b m d w8 (by omega) (HM.out.below K8.out.1) HKM.out (by omega) (by omega)).mono ?_
  rintro e w9 ⟨rfl, b9⟩
  have K9 := Lib.hid (K8.out.next b9)
  have n9 := b9.size
  have H89 := Lib.hid (H8.out.below b9 hp8)
  have H79 := Lib.hid (H78.out.below b9 (by omega))
  have HF9 := Lib.hid (HF8.out.below b9 (by omega))
  have HR9 := Lib.hid (HR8.out.below b9)
  have HR79 := Lib.hid (HR78.out.below b9)
  clear b9 c0 c1 c2 H8 H78 HF8 HR8 HR78 HF7 HR7 H7
  rcases HC2.out with ⟨h2, hR2, her2⟩ | ⟨h2, hR2, her2⟩
  case inr =>
    subst her2
    rw [h2]
    have HR2e := Lib.hid hR2
    have hl9 := rev_get H89.out
    have hsn := same_none rs2 w9
    have HFe : Fm.v ⟨0, 0, zero, false, []⟩ none 0 = .agg #[.int .i64 0, .int .i64 0, .string ⟨#[]⟩, .string ⟨#[]⟩, .bool false, .bool false, .slice none 0 0] := rfl
    rw [HFe, ← HR2e.out] at hsn
    clear hR2 HFe h2
    go_wp2_with (refine wpList_run_load_g (by kernel_rfl) 33 (.tmp 17) rfl _ _ rfl hl9 ?_)
    refine hsn.mono ?_
    rintro e w10 ⟨rfl, b10⟩
    have hl10 := rev_get (H79.out.below b10 (by omega))
    have hf10 := fm_get (HF9.out.below b10 (by omega))
    have K10 := Lib.hid (K9.out.next b10)
    have hsm := same_any ver rate sp l T rs a c w10 (by omega) HK.out (by rw [← HRe.out]; exact HR79.out.below b10) (HE.out.below K10.out.1) hT
    rw [← HRe.out] at hsm
    clear b10 hl9 hsn
    go_wp2_with (first | (refine wpList_run_load_g (by kernel_rfl) 33 (.tmp 15) rfl _ _ rfl hl10 ?_) | (refine wpList_run_load_g (by kernel_rfl) 41 (.tmp 13) rfl _ _ rfl hf10 ?_))
    refine hsm.mono ?_
    rintro e w11 ⟨rfl, b11⟩
    have K11 := Lib.hid (K10.out.next b11)
    go_wp2_with fail
    go_ret
    exact ⟨rfl, K11.out.1⟩
  subst her2
  rw [h2]
  obtain ⟨L, hL⟩ : ∃ L, L = changedL l m := ⟨_, rfl⟩
  have hLl := changed_length m l
  have hLk : ∀ e ∈ L, e.key.size ≤ 1000000 := fun e he => by
    rw [hL] at he
    rcases mem_changed _ _ he with h | h
    · exact HKM.out e h
    · exact HK.out e h
  obtain ⟨rt, hrt⟩ : ∃ rt, rt = rated rate m.length := ⟨_, rfl⟩
  obtain ⟨T2, hT2⟩ : ∃ T2, T2 = build (L.map En.key) := ⟨_, rfl⟩
  have hra := fun w' (hb : Below w9.heap.size w9 w') => refapply_any ver rate next sp a l c b m d w' (by omega) (by omega) HK.out HKM.out (HE.out.below (K9.out.next hb).1) (HM.out.below (K9.out.next hb).1)
  rw [← hL] at hR2 hLl hra
  rw [← hrt] at hR2 hra
  rw [← hT2] at hR2
  have hL5 : L.length ≤ 500 := by omega
  have HR2e := Lib.hid hR2
  have HRA9 := Lib.hid hra
  have HLk := Lib.hid hLk
  clear hL hrt hR2 hra hLk hLl h2 HC2
  go_wp2_with fail
  refine (tomb_any ver w9).mono ?_
  rintro e w10 ⟨rfl, b10⟩
  go_wp2_with fail
  refine (apply_dead ver (.int .i64 next) (.slice none 0 0) w10).mono ?_
  rintro e w11 ⟨rfl, b11⟩
  obtain ⟨W9, hst9, _, bW9, sW9⟩ := rev_new Rm.none Rs.none w11
  simp only [Rm.zeroRow] at hst9
  have bb := (b10.trans (b11.mono b10.size)).trans (bW9.mono (Nat.le_trans b10.size b11.size))
  have nb := bb.size
  have KF := Lib.hid (K9.out.next bb)
  have H8 := Lib.hid (H89.out.below bb (by omega))
  have H1 := Lib.hid (H79.out.below bb (by omega))
  have HFm := Lib.hid (HF9.out.below bb (by omega))
  have HR2 := Lib.hid (HR9.out.below bb)
  have HR1 := Lib.hid (HR79.out.below bb)
  have HE9 := Lib.hid (HE.out.below KF.out.1)
  have HRA : Hid (∀ w', Below W9.heap.size W9 w' → _) := Lib.hid (fun w' hb => HRA9.out w' (bb.trans (hb.mono nb)))
  clear b10 b11 bW9 bb H89 H79 HF9 HR9 HR79 HAP HRA9
  generalize Rm.none = RN at hst9 ⊢
  go_wp2_with (refine wpList_run_store rfl 33 (.tmp 19) (.tmp 100) rfl _ _ rfl rfl W9 hst9 ?_)
  obtain rfl := HRe.out
  obtain rfl := HR2e.out
  have hLk := HLk.out
  refine FreeX.region_puts (S := fun w' => Below W9.heap.size W9 w') (B0 := W9.heap.size) (w0 := W9.drew) (om := fun _ => 0) (olds := []) (far := fun _ _ => True)
    (tabs := fun β => [(1, .cmp .eql 34 (.int .i64 0) (.int .i64 0) (.bool true)),
      (3, .load 33 ⟨p8, 0, none⟩ ((Rm.mk next rt sp false L T2).v rs2)),
      (4, .load 41 ⟨w4.heap.size, 0, none⟩ ((Fm.mk ver rate sp false l).v a c)),
      (7, .rel 25 [(Fm.mk ver rate sp false l).v a c, .int .i64 next, .slice b m.length d] (IsF ⟨next, rt, sp, false, L⟩)),
      (8, .call 14 [(Rm.mk next rt sp false L T2).v rs2, (β 7).2] (.int .i64 1)),
      (9, .cmp .eql 3 (.int .i64 1) (.int .i64 1) (.bool true)),
      (12, .load 33 ⟨w7.heap.size, 0, none⟩ ((Rm.mk ver rate sp false l T).v rs)),
      (13, .load 41 ⟨w4.heap.size, 0, none⟩ ((Fm.mk ver rate sp false l).v a c)),
      (14, .call 14 [(Rm.mk ver rate sp false l T).v rs, (Fm.mk ver rate sp false l).v a c] (.int .i64 1)),
      (15, .cmp .eql 3 (.int .i64 1) (.int .i64 1) (.bool true)),
      (19, .cmp .eql 34 (.int .i64 1) (.int .i64 1) (.bool true))])
    (by kernel_rfl) ⟨fun β => ⟨by kernel_rfl, ⟨fun xo yo w => cmp_eql34 xo yo w (by simp), fun w' h _ => rev_get (H8.out.below h (by omega)), fun w' h _ => fm_get (HFm.out.below h (by omega)), ⟨enter_25, fun w' h _ => (HRA.out w' h).mono (fun e w2 ⟨ad, cc, he, hE, hb⟩ => ⟨_, he, ⟨ad, cc, rfl, hE⟩, hb, fun _ _ _ => trivial⟩)⟩, ⟨enter_14, fun w' h hf => by obtain ⟨ad, cc, e7, hE7⟩ : IsF ⟨next, rt, sp, false, L⟩ (β 7).2 w' := hf 7 _ rfl (by kernel_rfl); rw [e7]; exact same_any next rt sp L T2 rs2 ad cc w' hL5 hLk (HR2.out.below h) hE7 hT2⟩, fun xo yo w => cmp_eql3 xo yo w (by simp), fun w' h _ => rev_get (H1.out.below h (by omega)), fun w' h _ => fm_get (HFm.out.below h (by omega)), ⟨enter_14, fun w' h _ => same_any ver rate sp l T rs a c w' (by omega) HK.out (HR1.out.below h) (HE9.out.below h) hT⟩, fun xo yo w => cmp_eql3 xo yo w (by simp), fun xo yo w => cmp_eql34 xo yo w (by simp), trivial⟩,
      by kernel_rfl, by kernel_rfl, by kernel_rfl, fun w1 w2 h hb => h.trans hb, Nat.le_refl _, fun _ _ h => (by cases h), fun _ _ _ _ h => (by cases h), FreeX.rel_all (C := fun Φ => ∀ v w w', Φ v w → Below w.heap.size w w' → Φ v w') ⟨fun v w w' h hb => h.below hb, trivial⟩, fun _ _ _ _ _ _ _ _ h => (by cases h), fun i t j x vs h => absurd h (FreeX.no_own (by kernel_rfl) i t j x vs), fun _ _ _ _ _ _ _ _ => trivial⟩, ?loc, fun _ _ _ => rfl⟩
    (drew_below (Below.refl _ _)) rfl (fun _ _ h => (by cases h)) (fun β => Free.from_ 102 [.int .i64 0, .bool true, .bool true, (Rm.mk next rt sp false L T2).v rs2, (Fm.mk ver rate sp false l).v a c, .int .i64 next, .slice b m.length d, (β 7).2, .int .i64 1, .bool true, .bool true, .bool true, (Rm.mk ver rate sp false l T).v rs, (Fm.mk ver rate sp false l).v a c, .int .i64 1, .bool true, .bool true, .bool true, .int .i64 1, .bool true, .bool true] ++ [(12, .bool true)]) (fun β => by kernel_rfl) ?_
  case loc =>
    intro β i nn j h
    refine FreeX.look_cons (fun _ => rfl) (FreeX.look_cons (fun _ => rfl) (FreeX.look_cons (fun _ => rfl) (FreeX.look_cons (fun _ => rfl) (FreeX.look_cons (fun hj => ?_) (FreeX.look_cons (fun _ => rfl) (FreeX.look_cons (fun _ => rfl) (FreeX.look_cons (fun _ => rfl) (FreeX.look_cons (fun _ => rfl) (FreeX.look_cons (fun _ => rfl) (FreeX.look_cons (fun _ => rfl) (rfl)))))))))))
    · subst hj
      rw [FreeX.upd_ne (k := 7) h (by kernel_rfl)]
  intro β w12 h12 _ _ _ _ _ _
  rw [FreeX.puts_append, Free.puts_from _ _ _ (Nat.le_of_ble_eq_true rfl)]
  simp only [List.take_succ_cons, List.take_zero, List.drop_succ_cons, List.drop_zero, List.cons_append, List.nil_append, List.length_cons, List.length_nil, Nat.reduceAdd]
  unfold Free.puts
  simp only [List.foldl_cons, List.foldl_nil]
  go_wp2_with fail
  go_ret
  exact ⟨rfl, (KF.out.next h12).1⟩
theorem applies_any (ver rate : Int) (sp : Sp) (a : Option Addr) (l : List En) (c : Nat) (b : Option Addr) (m : List En) (d : Nat) (next : Int) (w : World) (hE : Ents w a l) (hM : Ents w b m) :
    Calls Try.prog 4 #[.int .i64 ver, .int .i64 rate, sp.v, .slice a l.length c, .slice b m.length d, .int .i64 next] w fun e w' => e = .returned (.bool true) ∧ Below w.heap.size w w' := by
  by_cases h : FewE l ∧ FewE m ∧ sp.brief = true
  · exact applies_yes ver rate sp a l c b m d next w hE hM h.1 h.2.1 h.2.2
  · exact applies_no ver rate sp a l c b m d next w hE hM fun h1 h2 h3 => h ⟨h1, h2, h3⟩
end Go.Proofs.Ytkapjijppjfmkaa
