/- The law RevPlays of few and short entries. Conditions: those that the law names itself. -/
import Derived.Test.YtkapjijppjfmkaaLwA
namespace Go.Proofs.Ytkapjijppjfmkaa
open Go.RowKit Go.Op
set_option maxRecDepth 100000

set_option maxHeartbeats 2000000 in
theorem plays_yes (ver rate : Int) (sp : Sp) (a : Option Addr) (l : List En) (c : Nat) (k : ByteArray) (inn : Sp) (lim : Int) (w : World) (hE : Ents w a l) (hF : FewE l) (hsb : sp.brief = true) (hib : inn.brief = true) (hks : k.size ≤ 40) :
    Calls Try.prog 3 #[.int .i64 ver, .int .i64 rate, sp.v, .slice a l.length c, .string k, inn.v, .int .i64 lim] w fun e w' => e = .returned (.bool true) ∧ Below w.heap.size w w' := by
  have HE := Lib.hid hE
  have K1 := Lib.hid (two_start w sp inn)
  clear hE
  simp only [Sp.v]
  have e0 := fewE_yes hF
  have hl : l.length ≤ 70 := hF.1
  have hk : ∀ e ∈ l, e.key.size ≤ 1000000 := fun e he => Nat.le_trans (hF.2 e he).1 (by decide)
  clear hF
  have HK := Lib.hid hk
  clear hk
  obtain ⟨s1, s2⟩ := brief_yes hsb
  obtain ⟨s3, s4⟩ := brief_yes hib
  have d1 : decide ((40 : Int) < (k.size : Int)) = false := decide_eq_false (by omega)
  go_enter Try.func3, Try.ntmps3
  go_wp2_with fail
  refine (awake_any _).mono ?_
  rintro e w2 ⟨rfl, b2⟩
  have K2 := Lib.hid (K1.out.next b2)
  clear b2
  go_wp2_with fail
  refine (few_any a l c w2 (HE.out.below K2.out.1)).mono ?_
  rintro e w3 ⟨rfl, rfl⟩
  rw [e0]
  obtain ⟨c0, c1, c2⟩ := K2.out.s
  go_wp2_with fail
  refine (brief_any sp w2).mono ?_
  rintro e w3 ⟨rfl, b3⟩
  have K3 := Lib.hid (K2.out.next b3)
  rw [hsb]
  clear b3 c0 c1 c2
  obtain ⟨c0, c1, c2⟩ := K3.out.t
  go_wp2_with fail
  refine (brief_any inn w3).mono ?_
  rintro e w4 ⟨rfl, b4⟩
  have K4 := Lib.hid (K3.out.next b4)
  rw [hib]
  clear b4 c0 c1 c2
  obtain ⟨c0, c1, c2⟩ := K4.out.s
  go_wp2_with fail
  refine (of_any sp w4).mono ?_
  rintro e w5 ⟨rfl, b5⟩
  have K5 := Lib.hid (K4.out.next b5)
  clear b5 c0 c1 c2 d1
  go_wp2_with fail
  refine (lawof_any a l c w5 (by omega) (HE.out.below K5.out.1)).mono ?_
  rintro e w6 ⟨v6, rfl, hO, b6⟩
  obtain ⟨a6, c6, rfl, hE6, _⟩ := hO.ents
  have K6 := Lib.hid (K5.out.next b6)
  clear b6 hO
  go_wp2_with fail
  refine (new_any ver rate sp a6 l c6 w6 (by omega) HK.out hE6).mono ?_
  rintro e w7 ⟨R, rs, er, rfl, hR, _, b7, hc⟩
  have K7 := Lib.hid (K6.out.next b7)
  clear b7 hE6
  obtain ⟨W7, hst7, hW7, bW7, sW7⟩ := rev_new R rs w7
  simp only [Rm.zeroRow] at hst7
  have KW := Lib.hid (K7.out.next bW7)
  have HR7 := Lib.hid (hR.below bW7)
  have H7 := Lib.hid hW7
  clear bW7 hR hW7
  obtain ⟨c0, c1, c2⟩ := KW.out.s
  have hmd := made_any ver rate sp a l c W7 (by omega) (HE.out.below KW.out.1) HK.out (by omega) (by omega)
  unfold madeV at hmd
  rcases hc with ⟨hh, hRe, rfl⟩ | ⟨hh, hRe, rfl⟩
  case inr =>
    rw [hh, if_neg (by decide)] at hmd
    have HRe := Lib.hid hRe
    clear hRe
    go_wp2_with (refine wpList_run_store rfl 33 (.tmp 15) (.tmp 54) rfl _ _ rfl rfl W7 hst7 ?_)
    refine hmd.mono ?_
    rintro e w8 ⟨rfl, b8⟩
    obtain ⟨W8, hst8, hW8, bW8, sW8⟩ := fm_new ⟨0, 0, zero, false, []⟩ none 0 w8
    unfold fmZero at hst8
    have K8 := Lib.hid ((KW.out.next b8).next bW8)
    have H8 := Lib.hid (H7.out.below (b8.trans (bW8.mono b8.size)) sW7)
    have hl8 := rev_get H8.out
    have hsn := same_none rs W8
    rw [← HRe.out] at hsn
    have HF : Fm.v ⟨0, 0, zero, false, []⟩ none 0 = .agg #[.int .i64 0, .int .i64 0, .string ⟨#[]⟩, .string ⟨#[]⟩, .bool false, .bool false, .slice none 0 0] := rfl
    rw [HF] at hsn
    clear b8 bW8 hW8 HF hmd c0 c1 c2
    go_wp2_with (first | (refine wpList_run_store rfl 41 (.tmp 17) (.tmp 62) rfl _ _ rfl rfl W8 hst8 ?_) | (refine wpList_run_load_g (by kernel_rfl) 33 (.tmp 15) rfl _ _ rfl hl8 ?_))
    refine hsn.mono ?_
    rintro e w9 ⟨rfl, b9⟩
    go_wp2_with fail
    go_ret
    exact ⟨rfl, (K8.out.next b9).1⟩
  rw [hh, if_pos rfl] at hmd
  obtain ⟨T, hT⟩ : ∃ T, T = build (l.map En.key) := ⟨_, rfl⟩
  rw [← hT] at hRe
  have HRe := Lib.hid hRe
  have HRl : Hid (R.l = l) := Lib.hid (by rw [HRe.out])
  clear hRe
  go_wp2_with (refine wpList_run_store rfl 33 (.tmp 15) (.tmp 54) rfl _ _ rfl rfl W7 hst7 ?_)
  refine hmd.mono ?_
  rintro e w8 ⟨rfl, b8⟩
  obtain ⟨W8, hst8, hW8, bW8, sW8⟩ := fm_new ⟨ver, rate, sp, false, l⟩ a c w8
  unfold fmZero at hst8
  have bb := b8.trans (bW8.mono b8.size)
  have K8 := Lib.hid (KW.out.next bb)
  have H8 := Lib.hid (H7.out.below bb sW7)
  have HR8 := Lib.hid (HR7.out.below bb)
  have HF8 := Lib.hid hW8
  have hl8 := rev_get H8.out
  have n8 := b8.size
  have hg := get_any R rs k W8 (by rw [HRe.out]; show l.length ≤ _; omega) HR8.out (by rw [HRe.out]; exact hT) (by omega)
  have hrg := fun w' (hb : Below W8.heap.size W8 w') => refget_any a l c k w' (by omega) (HE.out.below (K8.out.next hb).1)
  rw [HRl.out] at hg
  generalize getV l k = gg at hg hrg
  obtain ⟨gv, gb⟩ := gg
  simp only at hg hrg
  clear b8 bW8 hW8 hmd c0 c1 c2 bb
  go_wp2_with (first | (refine wpList_run_store rfl 41 (.tmp 17) (.tmp 62) rfl _ _ rfl rfl W8 hst8 ?_) | (refine wpList_run_load rfl 33 (.tmp 15) rfl _ _ rfl hl8 ?_))
  refine hg.mono ?_
  rintro e w9 ⟨rfl, b9⟩
  have hrg9 := hrg w9 b9
  go_wp2_with fail
  refine hrg9.mono ?_
  rintro e w10 ⟨rfl, rfl⟩
  have HR := Lib.hid (HR8.out.below b9)
  have H1 := Lib.hid (H8.out.below b9 (by omega))
  have H2 := Lib.hid (HF8.out.below b9 sW8)
  have K9 := Lib.hid (K8.out.next b9)
  have HE9 := Lib.hid (HE.out.below K9.out.1)
  have n9 := b9.size
  have nq := K9.out.2.2.2
  clear HE hrg hrg9 hg b9 hl8 hst8 hst7
  have hs1 : inn.lo.size ≤ 1000000 := by omega
  have hs2 : inn.hi.size ≤ 1000000 := by omega
  go_wp2_with fail
  obtain rfl := HRe.out
  have HQ : Hid (Free.Holds (w.heap.size + 1) inn.cells w9) := Lib.hid K9.out.2.2.1
  have HE := HE9
  have hk := HK.out
  clear HRe HRl HR7 HR8 H7 H8 K1 K2 K3 K4 K5 K6 K7 KW K8 HE9 HF8
  have en1 : inn.v = .agg #[.string inn.lo, .string inn.hi, .bool inn.all] := rfl
  refine FreeX.region_puts (S := fun w' => Below w9.heap.size w9 w') (B0 := w9.heap.size) (w0 := w9.drew) (om := fun _ => 0) (olds := []) (far := fun _ _ => True)
    (tabs := fun β => [(1, .cmp .eql 34 (.int .i64 0) (.int .i64 0) (.bool true)),
      (3, .load 33 ⟨w7.heap.size, 0, none⟩ ((Rm.mk ver rate sp false l T).v rs)),
      (4, .load 41 ⟨w8.heap.size, 0, none⟩ ((Fm.mk ver rate sp false l).v a c)),
      (5, .call 14 [(Rm.mk ver rate sp false l T).v rs, (Fm.mk ver rate sp false l).v a c] (.int .i64 1)),
      (6, .cmp .eql 3 (.int .i64 1) (.int .i64 1) (.bool true)),
      (11, .cmp .eql 9 (.string gv) (.string gv) (.bool true)),
      (16, .cmp .eql 4 (.bool gb) (.bool gb) (.bool true)),
      (19, .load 33 ⟨w7.heap.size, 0, none⟩ ((Rm.mk ver rate sp false l T).v rs)),
      (20, .call 17 [(Rm.mk ver rate sp false l T).v rs] (.int .i64 ((liveL l).length : Int))),
      (22, .rel 18 [.slice a l.length c] (IsE 0 (liveL l))),
      (23, .gen [(β 22).2] (.int .i64 ((liveL l).length : Int))),
      (24, .cmp .eql 3 (.int .i64 ((liveL l).length : Int)) (.int .i64 ((liveL l).length : Int)) (.bool true)),
      (27, .load 33 ⟨w7.heap.size, 0, none⟩ ((Rm.mk ver rate sp false l T).v rs)),
      (28, .load 23 ⟨w.heap.size + 1, 0, none⟩ (inn.v)),
      (29, .call 11 [inn.v] (inn.v)),
      (31, .rel 20 [(Rm.mk ver rate sp false l T).v rs, inn.v, .int .i64 lim] (IsP (pairsL l inn lim.toNat))),
      (33, .load 23 ⟨w.heap.size + 1, 0, none⟩ (inn.v)),
      (35, .rel 21 [.slice a l.length c, inn.v, .int .i64 lim] (IsP (pairsL l inn lim.toNat))),
      (36, .call 19 [(β 31).2, (β 35).2] (.int .i64 1)),
      (37, .cmp .eql 3 (.int .i64 1) (.int .i64 1) (.bool true))])
    (by kernel_rfl) ⟨fun β => ⟨by kernel_rfl, ⟨fun xo yo w => cmp_eql34 xo yo w (by simp), fun w' h _ => rev_get (H1.out.below h (by omega)), fun w' h _ => fm_get (H2.out.below h (by omega)), ⟨enter_14, fun w' h _ => same_any ver rate sp l T rs a c w' (by omega) hk (HR.out.below h) (HE.out.below h) hT⟩, fun xo yo w => cmp_eql3 xo yo w (by simp), fun xo yo w => cmp_eql9 xo yo w (by simp), fun xo yo w => cmp_eql4 xo yo w (by simp), fun w' h _ => rev_get (H1.out.below h (by omega)), ⟨enter_17, fun w' h _ => nlive_any ⟨ver, rate, sp, false, l, T⟩ rs w' (by show l.length ≤ _; omega) (HR.out.below h)⟩, ⟨enter_18, fun w' h _ => (reflive_any a l c w' (by omega) (HE.out.below h)).mono (fun e w2 ⟨v, he, hO, hb⟩ => ⟨v, he, (IsE.of hO).mono (Nat.zero_le _), hb, fun _ _ _ => trivial⟩)⟩, genx_lenF _ rfl rfl (fun ty w' h hf => by obtain ⟨ad, cc, e1, _, _⟩ : IsE 0 (liveL l) (β 22).2 w' := hf 22 _ rfl (by kernel_rfl); rw [e1]; exact len_24 _ _ _ _ _), fun xo yo w => cmp_eql3 xo yo w (by simp), fun w' h _ => rev_get (H1.out.below h (by omega)), fun w' h _ => load_23 (At.of (HQ.out.below h (by omega))), ⟨enter_11, fun w' _ _ => of_any inn w'⟩, ⟨enter_20, fun w' h _ => (pairs_any ⟨ver, rate, sp, false, l, T⟩ rs inn lim w' (by show l.length ≤ _; omega) (HR.out.below h)).mono (fun e w2 ⟨v, he, hO, hb⟩ => ⟨v, he, IsP.of hO, hb, fun _ _ _ => trivial⟩)⟩, fun w' h _ => load_23 (At.of (HQ.out.below h (by omega))), ⟨enter_21, fun w' h _ => (refpairs_any a l c inn lim w' (by omega) (HE.out.below h) hk hs1 hs2).mono (fun e w2 ⟨v, he, hO, hb⟩ => ⟨v, he, IsP.of hO, hb, fun _ _ _ => trivial⟩)⟩, ⟨enter_19, fun w' h hf => by obtain ⟨a1, c1, e1, hP1⟩ : IsP (pairsL l inn lim.toNat) (β 31).2 w' := hf 31 _ rfl (by kernel_rfl); obtain ⟨a2, c2, e2, hP2⟩ : IsP (pairsL l inn lim.toNat) (β 35).2 w' := hf 35 _ rfl (by kernel_rfl); rw [e1, e2]; exact samepairs_any a1 a2 _ c1 c2 w' (pairs_len (by omega)) hP1 hP2⟩, fun xo yo w => cmp_eql3 xo yo w (by simp), trivial⟩,
      by kernel_rfl, by kernel_rfl, by kernel_rfl, fun w1 w2 h hb => h.trans hb, Nat.le_refl _, fun _ _ h => (by cases h), fun _ _ _ _ h => (by cases h), FreeX.rel_all (C := fun Φ => ∀ v w w', Φ v w → Below w.heap.size w w' → Φ v w') ⟨fun v w w' h hb => h.below hb, fun v w w' h hb => h.below hb, fun v w w' h hb => h.below hb, trivial⟩, fun _ _ _ _ _ _ _ _ h => (by cases h), fun i t j x vs h => absurd h (FreeX.no_own (by kernel_rfl) i t j x vs), fun _ _ _ _ _ _ _ _ => trivial⟩, ?loc, fun _ _ _ => rfl⟩
    (drew_below (Below.refl _ _)) rfl (fun _ _ h => (by cases h)) (fun β => Free.from_ 86 [.int .i64 0, .bool true, .bool true, (Rm.mk ver rate sp false l T).v rs, (Fm.mk ver rate sp false l).v a c, .int .i64 1, .bool true, .bool true, .bool true, .string gv, .string gv, .bool true, .bool true, .bool true, .bool gb, .bool gb, .bool true, .bool true, .bool true, (Rm.mk ver rate sp false l T).v rs, .int .i64 ((liveL l).length : Int), .slice a l.length c, (β 22).2, .int .i64 ((liveL l).length : Int), .bool true, .bool true, .bool true, (Rm.mk ver rate sp false l T).v rs, inn.v, inn.v, .int .i64 lim, (β 31).2, .slice a l.length c, inn.v, .int .i64 lim, (β 35).2, .int .i64 1, .bool true, .bool true] ++ [(14, .bool true)]) (fun β => by kernel_rfl) ?_
  case loc =>
    intro β i nn j h
    refine FreeX.look_cons (fun _ => rfl) (FreeX.look_cons (fun _ => rfl) (FreeX.look_cons (fun _ => rfl) (FreeX.look_cons (fun _ => rfl) (FreeX.look_cons (fun _ => rfl) (FreeX.look_cons (fun _ => rfl) (FreeX.look_cons (fun _ => rfl) (FreeX.look_cons (fun _ => rfl) (FreeX.look_cons (fun _ => rfl) (FreeX.look_cons (fun _ => rfl) (FreeX.look_cons (fun hj => ?_) (FreeX.look_cons (fun _ => rfl) (FreeX.look_cons (fun _ => rfl) (FreeX.look_cons (fun _ => rfl) (FreeX.look_cons (fun _ => rfl) (FreeX.look_cons (fun _ => rfl) (FreeX.look_cons (fun _ => rfl) (FreeX.look_cons (fun _ => rfl) (FreeX.look_cons (fun hj => ?_) (FreeX.look_cons (fun _ => rfl) (rfl))))))))))))))))))))
    · subst hj
      rw [FreeX.upd_ne (k := 22) h (by kernel_rfl)]
    · subst hj
      rw [FreeX.upd_ne (k := 31) h (by kernel_rfl), FreeX.upd_ne (k := 35) h (by kernel_rfl)]
  intro β w10 h1 _ h3 _ _ _ _
  rw [FreeX.puts_append, Free.puts_from _ _ _ (Nat.le_of_ble_eq_true rfl)]
  simp only [List.take_succ_cons, List.take_zero, List.drop_succ_cons, List.drop_zero, List.cons_append, List.nil_append, List.length_cons, List.length_nil, Nat.reduceAdd]
  unfold Free.puts
  simp only [List.foldl_cons, List.foldl_nil]
  go_wp2_with fail
  go_ret
  exact ⟨rfl, (K9.out.next (h1)).1⟩
theorem plays_any (ver rate : Int) (sp : Sp) (a : Option Addr) (l : List En) (c : Nat) (k : ByteArray) (inn : Sp) (lim : Int) (w : World) (hE : Ents w a l) :
    Calls Try.prog 3 #[.int .i64 ver, .int .i64 rate, sp.v, .slice a l.length c, .string k, inn.v, .int .i64 lim] w fun e w' => e = .returned (.bool true) ∧ Below w.heap.size w w' := by
  by_cases h : FewE l ∧ sp.brief = true ∧ inn.brief = true ∧ k.size ≤ 40
  · exact plays_yes ver rate sp a l c k inn lim w hE h.1 h.2.1 h.2.2.1 h.2.2.2
  · exact plays_no ver rate sp a l c k inn lim w hE fun h1 h2 h3 h4 => h ⟨h1, h2, h3, h4⟩
end Go.Proofs.Ytkapjijppjfmkaa
