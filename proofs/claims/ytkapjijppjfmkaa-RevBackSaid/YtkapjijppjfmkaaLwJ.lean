/- The law RevBack; what is split, and joined again. Conditions: entries, a span or a key that are not few and short; for the others entries that may be, at most 70, at least two of them with values. -/
import Derived.Test.YtkapjijppjfmkaaLwI
namespace Go.Proofs.Ytkapjijppjfmkaa
open Go.RowKit Go.Op
set_option maxRecDepth 100000

/-- A span in a variable of the call's own, and all else as it was. -/
def One (w : World) (s : Sp) (wi : World) : Prop := Below w.heap.size w wi ∧ Free.Holds w.heap.size s.cells wi ∧ w.heap.size + 1 ≤ wi.heap.size
theorem One.next {w : World} {s : Sp} {wi wj : World} (h : One w s wi) (hb : Below wi.heap.size wi wj) : One w s wj :=
  ⟨h.1.trans (hb.mono h.1.size), h.2.1.below hb (by have := h.2.2; omega), Nat.le_trans h.2.2 hb.size⟩
theorem One.s {w : World} {s : Sp} {wi : World} (h : One w s wi) : wi.cell? ⟨w.heap.size, 0, none⟩ = some (.string s.lo) ∧ wi.cell? ⟨w.heap.size, 1, none⟩ = some (.string s.hi) ∧ wi.cell? ⟨w.heap.size, 2, none⟩ = some (.bool s.all) :=
  ⟨(h.2.1 0 _ rfl).1, (h.2.1 1 _ rfl).1, (h.2.1 2 _ rfl).1⟩
theorem one_start (w : World) (s : Sp) : One w s (w.alloc (.cells #[.string s.lo, .string s.hi, .bool s.all] 23)) :=
  ⟨(Below.refl _ _).alloc (Nat.le_refl _) _, holds_alloc w #[.string s.lo, .string s.hi, .bool s.all] 23 w.heap.size s.cells rfl rfl, by simp⟩
set_option maxHeartbeats 2000000 in
theorem back_no (ver : Int) (sp : Sp) (a : Option Addr) (l : List En) (c : Nat) (k : ByteArray) (w : World) (hE : Ents w a l) (hno : FewE l → sp.brief = true → ¬ k.size ≤ 40) :
    Calls Try.prog 6 #[.int .i64 ver, sp.v, .slice a l.length c, .string k] w fun e w' => e = .returned (.bool true) ∧ Below w.heap.size w w' := by
  have HE := Lib.hid hE
  have K1 := Lib.hid (one_start w sp)
  clear hE
  simp only [Sp.v]
  by_cases hF : FewE l
  case neg =>
    have e0 := fewE_no hF
    clear hF hno
    go_enter Try.func6, Try.ntmps6
    go_wp2_with fail
    refine (awake_any _).mono ?_
    rintro e w2 ⟨rfl, b2⟩
    have K2 := Lib.hid (K1.out.next b2)
    clear b2
    go_wp2_with fail
    refine (few_any a l c w2 (HE.out.below K2.out.1)).mono ?_
    rintro e w3 ⟨rfl, rfl⟩
    rw [e0]
    go_wp2_with fail
    refine (awake_any _).mono ?_
    rintro e w9 ⟨rfl, b9⟩
    have K9 := Lib.hid (K2.out.next b9)
    clear b9
    go_wp2_with fail
    go_ret
    exact ⟨rfl, K9.out.1⟩
  have hno2 := hno hF
  have e0 := fewE_yes hF
  clear hF hno
  cases hsb : sp.brief with
  | false =>
    clear hno2
    go_enter Try.func6, Try.ntmps6
    go_wp2_with fail
    refine (awake_any _).mono ?_
    rintro e w2 ⟨rfl, b2⟩
    have K2 := Lib.hid (K1.out.next b2)
    clear b2
    go_wp2_with fail
    refine (few_any a l c w2 (HE.out.below K2.out.1)).mono ?_
    rintro e w3 ⟨rfl, rfl⟩
    rw [e0]
    obtain ⟨c0, c1, c2⟩ := K2.out.s
    go_wp2_with fail
    refine (brief_any sp w2).mono ?_
    rintro e w3 ⟨rfl, b3⟩
    have K3 := Lib.hid (K2.out.next b3)
    rw [hsb]
    clear b3 c0 c1 c2
    go_wp2_with fail
    refine (awake_any _).mono ?_
    rintro e w9 ⟨rfl, b9⟩
    have K9 := Lib.hid (K3.out.next b9)
    clear b9
    go_wp2_with fail
    go_ret
    exact ⟨rfl, K9.out.1⟩
  | true =>
    have hks := hno2 hsb
    have d1 : decide ((40 : Int) < (k.size : Int)) = true := decide_eq_true (by omega)
    clear hno2
    go_enter Try.func6, Try.ntmps6
    go_wp2_with fail
    refine (awake_any _).mono ?_
    rintro e w2 ⟨rfl, b2⟩
    have K2 := Lib.hid (K1.out.next b2)
    clear b2
    go_wp2_with fail
    refine (few_any a l c w2 (HE.out.below K2.out.1)).mono ?_
    rintro e w3 ⟨rfl, rfl⟩
    rw [e0]
    obtain ⟨c0, c1, c2⟩ := K2.out.s
    go_wp2_with fail
    refine (brief_any sp w2).mono ?_
    rintro e w3 ⟨rfl, b3⟩
    have K3 := Lib.hid (K2.out.next b3)
    rw [hsb]
    clear b3 c0 c1 c2
    go_wp2_with fail
    refine (awake_any _).mono ?_
    rintro e w9 ⟨rfl, b9⟩
    have K9 := Lib.hid (K3.out.next b9)
    clear b9
    go_wp2_with fail
    go_ret
    exact ⟨rfl, K9.out.1⟩
theorem cut_good (sp : Sp) (k : ByteArray) (h : sp.has k = true) : (sp.meet ⟨no, k, false⟩).good = true ∧ (sp.meet ⟨k, no, true⟩).good = true ∧ (sp.meet ⟨no, k, false⟩).joins (sp.meet ⟨k, no, true⟩) = true ∧ Sp.mk (sp.meet ⟨no, k, false⟩).lo (sp.meet ⟨k, no, true⟩).hi (sp.meet ⟨k, no, true⟩).all = sp.meet whole := by
  obtain ⟨lo, hi, all⟩ := sp
  unfold Sp.has at h
  simp only [Bool.and_eq_true, Bool.not_eq_true', Bool.or_eq_true] at h
  obtain ⟨h1, h2⟩ := h
  have e1 : mx lo no = lo := by unfold mx; simp [lt_no]
  have e2 : mx lo k = k := by
    unfold mx
    cases e : lt lo k with
    | true => simp
    | false => simp [lt_total e h1]
  cases all
  · have h3 : lt k hi = true := by simpa using h2
    have e3 : mn hi k = k := by unfold mn; simp [h3]
    simp [Sp.meet, Sp.good, Sp.joins, whole, e1, e2, e3, h1, lt_asym h3]
  · simp [Sp.meet, Sp.good, Sp.joins, whole, e1, e2, h1]
/-- What Split and Join answer, told ahead: of entries of which at least two have values. -/
theorem split_join (ver rate : Int) (sp : Sp) (l : List En) (tab : List Int) (s : Rs) (k : ByteArray) (hl : l.length ≤ 200) (hk : ∀ e ∈ l, e.key.size ≤ 1000000) (hh : rightB sp l = true) (h2 : 2 ≤ (liveL l).length) :
    ∃ RA RB RJ : Rm, ∃ na nb : Nat,
      (∀ w, RevAt w ⟨ver, rate, sp, false, l, tab⟩ s → Calls Try.prog 27 #[(Rm.mk ver rate sp false l tab).v s] w fun e w' => ∃ s1 s2, e = .returned (.tuple #[RA.v s1, RB.v s2, .bool true]) ∧ RevAt w' RA s1 ∧ RevAt w' RB s2 ∧ Below w.heap.size w w') ∧
      (∀ w s1 s2, RevAt w RA s1 → RevAt w RB s2 → Calls Try.prog 28 #[RA.v s1, RB.v s2] w fun e w' => ∃ s', e = .returned (.tuple #[RJ.v s', .bool true]) ∧ RevAt w' RJ s' ∧ Below w.heap.size w w') ∧
      RA.sp.joins RB.sp = true ∧ RJ.sp = sp.meet whole ∧ RJ.ver = ver ∧ (liveL RA.l).length = na ∧ (liveL RB.l).length = nb ∧ ((na : Int) - nb = 0 ∨ (na : Int) - nb = 1) ∧
      RA.l.length ≤ 200 ∧ RB.l.length ≤ 200 ∧ RJ.l.length ≤ 200 ∧ (liveL RJ.l).length = (liveL l).length ∧ getV RJ.l k = getV l k ∧ RJ.tab = build (RJ.l.map En.key) := by
  have hsp := fun w (hR : RevAt w ⟨ver, rate, sp, false, l, tab⟩ s) => split_any ver rate sp l tab s w hl hk hR h2
  unfold halfA halfB at hsp
  obtain ⟨LL, hLL⟩ : ∃ LL, LL = liveL l := ⟨_, rfl⟩
  obtain ⟨n, hn⟩ : ∃ n, n = halfN l := ⟨_, rfl⟩
  obtain ⟨q, hq⟩ : ∃ q, q = midK l := ⟨_, rfl⟩
  rw [← hLL, ← hn, ← hq] at hsp
  have hn2 : n = (LL.length + 1) / 2 := by rw [hn, hLL]; rfl
  rw [← hLL] at h2
  have hlt : n < LL.length := by omega
  have hlive : LL.length ≤ l.length := by rw [hLL]; exact List.length_filter_le ..
  have hmem : ∀ e ∈ LL, e ∈ l := fun e he => by rw [hLL] at he; exact (List.mem_filter.1 he).1
  have hgone : ∀ e ∈ LL, e.gone = false := fun e he => live_gone e (by rw [← hLL]; exact he)
  have hqk : q = LL[n].key := by
    rw [hq]
    unfold midK
    rw [← hn, ← hLL, List.getElem?_eq_getElem hlt]
    rfl
  have hhas : sp.has q = true := by rw [hqk]; exact (has_of hh (hmem _ (List.getElem_mem hlt))).1
  obtain ⟨g1, g2, g3, g4⟩ := cut_good sp q hhas
  have hla : (LL.take n).length = n := by rw [List.length_take]; omega
  have hlb : (LL.drop n).length = LL.length - n := List.length_drop
  have lva : liveL (LL.take n) = LL.take n := live_all fun e he => hgone e (List.mem_of_mem_take he)
  have lvb : liveL (LL.drop n) = LL.drop n := live_all fun e he => hgone e (List.mem_of_mem_drop he)
  have hjn := fun w s1 s2 hA hB => join_any ver rate (sp.meet ⟨no, q, false⟩) (sp.meet ⟨q, no, true⟩) (LL.take n) (LL.drop n) (build ((LL.take n).map En.key)) (build ((LL.drop n).map En.key)) s1 s2 w (by omega) (by omega) (fun e he => hk e (hmem e (List.mem_of_mem_take he))) (fun e he => hk e (hmem e (List.mem_of_mem_drop he))) hA hB g1 g2 g3 (fun h => by rw [h, List.length_nil] at hla; omega) (fun h => by rw [h, List.length_nil] at hlb; omega) lva lvb
  rw [g4, List.take_append_drop] at hjn
  refine ⟨_, _, _, (LL.take n).length, (LL.drop n).length, hsp, hjn, g3, rfl, rfl, by rw [lva], by rw [lvb], by omega, by show (LL.take n).length ≤ _; omega, by show (LL.drop n).length ≤ _; omega, by show LL.length ≤ _; omega, ?_, ?_, rfl⟩
  · show (liveL LL).length = (liveL l).length
    rw [hLL, live_live]
  · show getV LL k = getV l k
    rw [hLL]
    exact getV_live (rise_of hh) k
theorem rev_new2 (R1 R2 : Rm) (s1 s2 : Rs) (w : World) : ∃ W W2, (Instr.storeAt 33 (.pointer (some ⟨w.heap.size, 0, none⟩)) (R1.v s1)).run Try.prog ((w.alloc (.cells Rm.none.zeroRow.toArray 33)).alloc (.cells Rm.none.zeroRow.toArray 33)) = .ok () W ∧
    (Instr.storeAt 33 (.pointer (some ⟨w.heap.size + 1, 0, none⟩)) (R2.v s2)).run Try.prog W = .ok () W2 ∧ Free.Holds w.heap.size (R1.row s1) W2 ∧ Free.Holds (w.heap.size + 1) (R2.row s2) W2 ∧ Below w.heap.size w W2 ∧ w.heap.size + 2 ≤ W2.heap.size := by
  have a1 : Free.Holds w.heap.size Rm.none.zeroRow ((w.alloc (.cells Rm.none.zeroRow.toArray 33)).alloc (.cells Rm.none.zeroRow.toArray 33)) := (holds_alloc w Rm.none.zeroRow.toArray 33 w.heap.size _ rfl rfl).below ((Below.refl _ _).alloc (Nat.le_refl _) _) (by simp)
  have a2 : Free.Holds (w.heap.size + 1) Rm.none.zeroRow ((w.alloc (.cells Rm.none.zeroRow.toArray 33)).alloc (.cells Rm.none.zeroRow.toArray 33)) := holds_alloc _ _ _ _ _ (by simp) rfl
  obtain ⟨h1, h2⟩ := rev_store (row := R1.row s1) a1 rfl rfl (R1.row_one s1)
  have a3 := a2.other (b := w.heap.size) (vs := R1.row s1) (by omega)
  obtain ⟨h3, h4⟩ := rev_store (row := R2.row s2) a3 rfl rfl (R2.row_one s2)
  exact ⟨_, _, h1, h3, h2.other (by omega), h4, Free.below_setCells (by omega) _ _ _ (Free.below_setCells (Nat.le_refl _) _ _ _ (((Below.refl _ _).alloc (Nat.le_refl _) _).alloc (by simp) _)), by rw [Free.size_setCells, Free.size_setCells]; simp⟩
theorem At.rev {p : Nat} {R : Rm} {s : Rs} {w : World} (h : Free.Holds p (R.row s) w) : At p 2 R.sp w := ⟨(h 2 _ rfl).1, (h 3 _ rfl).1, (h 4 _ rfl).1⟩

theorem enter_17 (xs : Array Value) (w : World) : (callFunc 17 xs).run Try.prog w = .ok (.enter 17 xs) w := by kernel_rfl
theorem enter_26 (xs : Array Value) (w : World) : (callFunc 26 xs).run Try.prog w = .ok (.enter 26 xs) w := by kernel_rfl
theorem enter_30 (xs : Array Value) (w : World) : (callFunc 30 xs).run Try.prog w = .ok (.enter 30 xs) w := by kernel_rfl
set_option maxHeartbeats 2000000 in
theorem back_yes (ver : Int) (sp : Sp) (a : Option Addr) (l : List En) (c : Nat) (k : ByteArray) (w : World) (hE : Ents w a l) (hF : FewE l) (hsb : sp.brief = true) (hks : k.size ≤ 40) :
    Calls Try.prog 6 #[.int .i64 ver, sp.v, .slice a l.length c, .string k] w fun e w' => e = .returned (.bool true) ∧ Below w.heap.size w w' := by
  have HE := Lib.hid hE
  have K1 := Lib.hid (one_start w sp)
  clear hE
  simp only [Sp.v]
  have e0 := fewE_yes hF
  have hl : l.length ≤ 70 := hF.1
  have HK : Hid (∀ e ∈ l, e.key.size ≤ 1000000) := Lib.hid fun e he => Nat.le_trans (hF.2 e he).1 (by decide)
  clear hF
  obtain ⟨s1, s2'⟩ := brief_yes hsb
  have d1 : decide ((40 : Int) < (k.size : Int)) = false := decide_eq_false (by omega)
  go_enter Try.func6, Try.ntmps6
  go_wp2_with fail
  refine (awake_any _).mono ?_
  rintro e w2 ⟨rfl, b2⟩
  have K2 := Lib.hid (K1.out.next b2)
  clear b2
  go_wp2_with fail
  refine (few_any a l c w2 (HE.out.below K2.out.1)).mono ?_
  rintro e w3 ⟨rfl, rfl⟩
  rw [e0]
  obtain ⟨c0, c1, c2⟩ := K2.out.s
  go_wp2_with fail
  refine (brief_any sp w2).mono ?_
  rintro e w3 ⟨rfl, b3⟩
  have K3 := Lib.hid (K2.out.next b3)
  rw [hsb]
  clear b3 c0 c1 c2
  clear d1
  obtain ⟨c0, c1, c2⟩ := K3.out.s
  go_wp2_with fail
  refine (of_any sp w3).mono ?_
  rintro e w5 ⟨rfl, b5⟩
  have K5 := Lib.hid (K3.out.next b5)
  clear b5 c0 c1 c2
  go_wp2_with fail
  refine (lawof_any a l c w5 (by omega) (HE.out.below K5.out.1)).mono ?_
  rintro e w6 ⟨v6, rfl, hO, b6⟩
  obtain ⟨a6, c6, rfl, hE6, _⟩ := hO.ents
  have K6 := Lib.hid (K5.out.next b6)
  clear b6 hO
  go_wp2_with fail
  refine (new_any ver 5 sp a6 l c6 w6 (by omega) HK.out hE6).mono ?_
  rintro e w7 ⟨R, rs, er, rfl, hR, _, b7, hc⟩
  have K7 := Lib.hid (K6.out.next b7)
  obtain ⟨W7, hst7, hW7, bW7, sW7⟩ := rev_new R rs w7
  simp only [Rm.zeroRow] at hst7
  have KW := Lib.hid (K7.out.next bW7)
  have H7 := Lib.hid hW7
  have HR7 := Lib.hid (hR.below bW7)
  clear b7 bW7 hE6 hR hW7
  rcases hc with ⟨hh, hRe, her⟩ | ⟨hh, hRe, her⟩
  case inr =>
    subst her
    clear hRe hh
    go_wp2_with (refine wpList_run_store rfl 33 (.tmp 9) (.tmp 46) rfl _ _ rfl rfl W7 hst7 ?_)
    go_ret
    exact ⟨rfl, KW.out.1⟩
  subst her
  obtain ⟨T, hT⟩ : ∃ T, T = build (l.map En.key) := ⟨_, rfl⟩
  rw [← hT] at hRe
  have HT := Lib.hid hT
  have HRe := Lib.hid hRe
  have HHH := Lib.hid hh
  clear hT hRe hh
  have hl7 := rev_get H7.out
  have hRl : R.l = l := by rw [HRe.out]
  have HRl := Lib.hid hRl
  clear hRl
  by_cases h2 : (liveL l).length < 2
  case pos =>
    have hsp := split_no ver 5 sp l T rs W7 (by omega) (by rw [← HRe.out]; exact HR7.out) h2
    rw [← HRe.out] at hsp
    have i1 : ((liveL l).length : Int) < 2 := by omega
    go_wp2_with (first | (refine wpList_run_store rfl 33 (.tmp 9) (.tmp 46) rfl _ _ rfl rfl W7 hst7 ?_) | (refine wpList_run_load rfl 33 (.tmp 9) rfl _ _ rfl hl7 ?_))
    refine hsp.mono ?_
    rintro e w8 ⟨rfl, b8⟩
    obtain ⟨W, W2, hs1, hs2, _, _, bW, sW⟩ := rev_new2 Rm.none Rm.none Rs.none Rs.none w8
    have bb := b8.trans (bW.mono b8.size)
    have H9 := H7.out.below bb sW7
    have hl9 := rev_get H9
    have hnl := nlive_any R rs W2 (by rw [HRl.out]; omega) (HR7.out.below bb)
    rw [HRl.out] at hnl
    have KF := Lib.hid (KW.out.next bb)
    simp only [Rm.zeroRow] at hs1
    generalize Rm.none.v Rs.none = x at hs1 hs2 ⊢
    clear b8 bW bb H9 hsp hl7 hst7
    go_wp2_with (first | (refine wpList_run_store rfl 33 (.tmp 11) (.tmp 55) rfl _ _ rfl rfl W hs1 ?_) | (refine wpList_run_store rfl 33 (.tmp 12) (.tmp 56) rfl _ _ rfl rfl W2 hs2 ?_) | (refine wpList_run_load rfl 33 (.tmp 9) rfl _ _ rfl hl9 ?_))
    refine hnl.mono ?_
    rintro e w9 ⟨rfl, b9⟩
    have KG := Lib.hid (KF.out.next b9)
    clear b9
    go_wp2_with fail
    go_ret
    exact ⟨rfl, KG.out.1⟩
  obtain ⟨RA, RB, RJ, na, nb, hsp, hjn, g1, g2, g3, g4, g5, g6, g7, g8, g9, g10, g11, g12⟩ := split_join ver 5 sp l T rs k (by omega) HK.out HHH.out (by omega)
  have hsp7 := hsp W7 (by rw [← HRe.out]; exact HR7.out)
  rw [← HRe.out] at hsp7
  have HJO := Lib.hid hjn
  obtain ⟨d, hd⟩ : ∃ d : Int, ((liveL RA.l).length : Int) - ((liveL RB.l).length : Int) = d := ⟨_, rfl⟩
  have hd2 : d = 0 ∨ d = 1 := by
    rw [← hd, g4, g5]
    exact g6
  have HD := Lib.hid hd
  have HJV := Lib.hid g3
  have HMT : Hid (∀ w', Calls Try.prog 29 #[R.sp.v, whole.v] w' fun e w2 => e = .returned RJ.sp.v ∧ Below w'.heap.size w' w2) := Lib.hid (fun w' => by
    rw [g2, show R.sp = sp by rw [HRe.out]]
    exact meet_any sp whole w')
  have HJN : Hid (∀ w', Calls Try.prog 30 #[RA.sp.v, RB.sp.v] w' fun e w2 => e = .returned (.bool true) ∧ Below w'.heap.size w' w2) := Lib.hid (fun w' => by
    have := joins_any RA.sp RB.sp w'
    rwa [g1] at this)
  have HLJ0 : Hid ((liveL RJ.l).length = (liveL l).length) := Lib.hid g10
  have HGJ : Hid (getV RJ.l k = getV l k) := Lib.hid g11
  have HTJ : Hid (RJ.tab = build (RJ.l.map En.key)) := Lib.hid g12
  clear hsp hjn g1 g2 g3 g4 g5 g6 g10 g11 g12 hd na nb h2
  go_wp2_with (first | (refine wpList_run_store rfl 33 (.tmp 9) (.tmp 46) rfl _ _ rfl rfl W7 hst7 ?_) | (refine wpList_run_load rfl 33 (.tmp 9) rfl _ _ rfl hl7 ?_))
  refine hsp7.mono ?_
  rintro e w8 ⟨s1, s2, rfl, hA, hB, b8⟩
  obtain ⟨W, W2, hs1, hs2, hWA, hWB, bW, sW⟩ := rev_new2 RA RB s1 s2 w8
  have bb := b8.trans (bW.mono b8.size)
  have HRA2 := Lib.hid (hA.below bW)
  have HRB2 := Lib.hid (hB.below bW)
  have HA2 := Lib.hid hWA
  have HB2 := Lib.hid hWB
  have H92 := Lib.hid (H7.out.below bb sW7)
  have HRR2 := Lib.hid (HR7.out.below bb)
  have K2 := Lib.hid (KW.out.next bb)
  have n2 := bb.size
  have hla := rev_get hWA
  have hlb := rev_get hWB
  have hj := HJO.out W2 s1 s2 HRA2.out HRB2.out
  simp only [Rm.zeroRow] at hs1
  clear b8 bW bb hA hB hWA hWB hsp7 hl7 hst7 H7 HR7
  go_wp2_with (first | (refine wpList_run_store rfl 33 (.tmp 11) (.tmp 55) rfl _ _ rfl rfl W hs1 ?_) | (refine wpList_run_store rfl 33 (.tmp 12) (.tmp 56) rfl _ _ rfl rfl W2 hs2 ?_) | (refine wpList_run_load rfl 33 (.tmp 11) rfl _ _ rfl hla ?_) | (refine wpList_run_load rfl 33 (.tmp 12) rfl _ _ rfl hlb ?_))
  refine hj.mono ?_
  rintro e w4 ⟨sJ, rfl, hJ, b4⟩
  obtain ⟨w5, hst5, hW5, bW5, sW5⟩ := rev_new RJ sJ w4
  have bb := b4.trans (bW5.mono b4.size)
  have HRA := Lib.hid (HRA2.out.below bb)
  have HRB := Lib.hid (HRB2.out.below bb)
  have HRR := Lib.hid (HRR2.out.below bb)
  have HRJ := Lib.hid (hJ.below bW5)
  have HA := Lib.hid (HA2.out.below bb (by omega))
  have HB := Lib.hid (HB2.out.below bb (by omega))
  have H9 := Lib.hid (H92.out.below bb (by omega))
  have HJ := Lib.hid hW5
  have K5 := Lib.hid (K2.out.next bb)
  have n4 := b4.size
  have n5 := bW5.size
  have n7 := sW7
  simp only [Rm.zeroRow] at hst5
  clear b4 bW5 bb hJ hW5 hj hla hlb hs1 hs2 HRA2 HRB2 HRR2 HA2 HB2 H92 K2
  go_wp2_with (refine wpList_run_store rfl 33 (.tmp 14) (.tmp 67) rfl _ _ rfl rfl w5 hst5 ?_)
  refine FreeX.region_puts (S := fun w' => Below w5.heap.size w5 w') (B0 := w5.heap.size) (w0 := w5.drew) (om := fun _ => 0) (olds := []) (far := fun _ _ => True)
    (tabs := fun β => [(0, .load 33 ⟨w8.heap.size, 0, none⟩ (RA.v s1)),
      (1, .call 17 [RA.v s1] (.int .i64 ((liveL RA.l).length : Int))),
      (2, .load 33 ⟨w8.heap.size + 1, 0, none⟩ (RB.v s2)),
      (3, .call 17 [RB.v s2] (.int .i64 ((liveL RB.l).length : Int))),
      (4, .cmp .sub 3 (.int .i64 ((liveL RA.l).length : Int)) (.int .i64 ((liveL RB.l).length : Int)) (.int .i64 d))])
    (by kernel_rfl) ⟨fun β => ⟨by kernel_rfl, ⟨fun w' h _ => rev_get (HA.out.below h (by omega)), ⟨enter_17, fun w' h _ => nlive_any RA s1 w' (by omega) (HRA.out.below h)⟩, fun w' h _ => rev_get (HB.out.below h (by omega)), ⟨enter_17, fun w' h _ => nlive_any RB s2 w' (by omega) (HRB.out.below h)⟩, fun xo yo w => cmp_sub3 xo yo w HD.out (by omega) (by omega), trivial⟩,
      by kernel_rfl, by kernel_rfl, by kernel_rfl, fun w1 w2 h hb => h.trans hb, Nat.le_refl _, fun _ _ h => (by cases h), fun _ _ _ _ h => (by cases h), fun i Φ h => (by rw [FreeX.no_rel (by kernel_rfl) i] at h; cases h), fun _ _ _ _ _ _ _ _ h => (by cases h), fun i t j x vs _ k Φ h => (by rw [FreeX.no_rel (by kernel_rfl) k] at h; cases h), fun _ _ _ _ _ _ _ _ => trivial⟩, ?loc, fun _ _ _ => rfl⟩
    (drew_below (Below.refl _ _)) rfl (fun _ _ h => (by cases h)) (fun β => Free.from_ 69 [RA.v s1, .int .i64 ((liveL RA.l).length : Int), RB.v s2, .int .i64 ((liveL RB.l).length : Int), .int .i64 d] ++ [(16, .int .i64 d)]) (fun β => by kernel_rfl) ?_
  case loc => exact fun _ _ _ _ _ => rfl
  intro β w6 h6 _ _ _ _ _ _
  rw [FreeX.puts_append, Free.puts_from _ _ _ (Nat.le_of_ble_eq_true rfl)]
  simp only [List.take_succ_cons, List.take_zero, List.drop_succ_cons, List.drop_zero, List.cons_append, List.nil_append, List.length_cons, List.length_nil, Nat.reduceAdd]
  unfold Free.puts
  simp only [List.foldl_cons, List.foldl_nil]
  have n6 := h6.size
  have H96 := Lib.hid (H9.out.below h6 (by omega))
  have HA6 := Lib.hid (HA.out.below h6 (by omega))
  have HB6 := Lib.hid (HB.out.below h6 (by omega))
  have HJ6 := Lib.hid (HJ.out.below h6 (by omega))
  have HRR6 := Lib.hid (HRR.out.below h6)
  have HRJ6 := Lib.hid (HRJ.out.below h6)
  have K6 := Lib.hid (K5.out.next h6)
  clear h6 hst5 H9 HA HB HJ HRR HRJ K5 HRA HRB
  have hl6 := rev_get H96.out
  have hg := get_any R rs k w6 (by rw [HRl.out]; omega) HRR6.out (by rw [HRe.out]; exact HT.out) (by omega)
  have hgj := fun w' (hb : Below w6.heap.size w6 w') => get_any RJ sJ k w' (by omega) (HRJ6.out.below hb) HTJ.out (by omega)
  rw [HRl.out] at hg
  rw [HGJ.out] at hgj
  generalize getV l k = gg at hg hgj
  obtain ⟨gv, gb⟩ := gg
  simp only at hg hgj
  have HGG := Lib.hid hgj
  clear hgj
  go_wp2_with (refine wpList_run_load rfl 33 (.tmp 9) rfl _ _ rfl hl6 ?_)
  refine hg.mono ?_
  rintro e w7' ⟨rfl, b7⟩
  have n7' := b7.size
  have hl7 := rev_get (HJ6.out.below b7 (by omega))
  have hg7 := HGG.out w7' b7
  go_wp2_with (refine wpList_run_load rfl 33 (.tmp 14) rfl _ _ rfl hl7 ?_)
  refine hg7.mono ?_
  rintro e w9 ⟨rfl, b9⟩
  have bb := b7.trans (b9.mono b7.size)
  have n9 := bb.size
  have H9 := Lib.hid (H96.out.below bb (by omega))
  have HA := Lib.hid (HA6.out.below bb (by omega))
  have HB := Lib.hid (HB6.out.below bb (by omega))
  have HJ := Lib.hid (HJ6.out.below bb (by omega))
  have HLR : Hid (∀ w', Below w9.heap.size w9 w' → Calls Try.prog 17 #[R.v rs] w' fun e w2 => e = .returned (.int .i64 ((liveL l).length : Int)) ∧ Below w'.heap.size w' w2) := Lib.hid (fun w' hb => by
    have := nlive_any R rs w' (by rw [HRl.out]; omega) ((HRR6.out.below bb).below hb)
    rwa [HRl.out] at this)
  have HLJ : Hid (∀ w', Below w9.heap.size w9 w' → Calls Try.prog 17 #[RJ.v sJ] w' fun e w2 => e = .returned (.int .i64 ((liveL l).length : Int)) ∧ Below w'.heap.size w' w2) := Lib.hid (fun w' hb => by
    have := nlive_any RJ sJ w' (by omega) ((HRJ6.out.below bb).below hb)
    rwa [HLJ0.out] at this)
  have KF := Lib.hid (K6.out.next bb)
  clear b7 b9 bb hl6 hg hl7 hg7 H96 HA6 HB6 HJ6 HRR6 HRJ6 K6 HGG
  go_wp2_with fail
  rcases hd2 with rfl | rfl
  · skip
    refine FreeX.region_puts (S := fun w' => Below w9.heap.size w9 w') (B0 := w9.heap.size) (w0 := w9.drew) (om := fun _ => 0) (olds := []) (far := fun _ _ => True)
      (tabs := fun β => [(3, .load 28 ⟨w4.heap.size, 2, none⟩ (RJ.sp.v)),
        (5, .load 28 ⟨w7.heap.size, 2, none⟩ (R.sp.v)),
        (6, .call 26 [] (whole.v)),
        (7, .call 29 [R.sp.v, whole.v] (RJ.sp.v)),
        (8, .cmp .eql 28 (RJ.sp.v) (RJ.sp.v) (.bool true)),
        (12, .load 3 ⟨w4.heap.size, 0, none⟩ (.int .i64 RJ.ver)),
        (14, .cmp .eql 3 (.int .i64 RJ.ver) (.int .i64 ver) (.bool true)),
        (18, .cmp .eql 3 (.int .i64 0) (.int .i64 0) (.bool true)),
        (25, .load 33 ⟨w4.heap.size, 0, none⟩ (RJ.v sJ)),
        (26, .call 17 [RJ.v sJ] (.int .i64 ((liveL l).length : Int))),
        (27, .load 33 ⟨w7.heap.size, 0, none⟩ (R.v rs)),
        (28, .call 17 [R.v rs] (.int .i64 ((liveL l).length : Int))),
        (29, .cmp .eql 3 (.int .i64 ((liveL l).length : Int)) (.int .i64 ((liveL l).length : Int)) (.bool true)),
        (34, .cmp .eql 9 (.string gv) (.string gv) (.bool true)),
        (39, .cmp .eql 4 (.bool gb) (.bool gb) (.bool true)),
        (43, .load 28 ⟨w8.heap.size, 2, none⟩ (RA.sp.v)),
        (45, .load 28 ⟨w8.heap.size + 1, 2, none⟩ (RB.sp.v)),
        (46, .call 30 [RA.sp.v, RB.sp.v] (.bool true))])
      (by kernel_rfl) ⟨fun β => ⟨by kernel_rfl, ⟨fun w' h _ => load_28 (At.rev (HJ.out.below h (by omega))), fun w' h _ => load_28 (At.rev (H9.out.below h (by omega))), ⟨enter_26, fun w' _ _ => whole_any w'⟩, ⟨enter_29, fun w' _ _ => HMT.out w'⟩, fun xo yo w => cmp_eql28 xo yo w RJ.sp, fun w' h _ => load_3 ((HJ.out.below h (by omega)) 0 _ rfl).1, fun xo yo w => cmp_eql3 xo yo w (by rw [HJV.out]; simp), fun xo yo w => cmp_eql3 xo yo w (by decide), fun w' h _ => rev_get (HJ.out.below h (by omega)), ⟨enter_17, fun w' h _ => HLJ.out w' h⟩, fun w' h _ => rev_get (H9.out.below h (by omega)), ⟨enter_17, fun w' h _ => HLR.out w' h⟩, fun xo yo w => cmp_eql3 xo yo w (by simp), fun xo yo w => cmp_eql9 xo yo w (by simp), fun xo yo w => cmp_eql4 xo yo w (by simp), fun w' h _ => load_28 (At.rev (HA.out.below h (by omega))), fun w' h _ => load_28 (At.rev (HB.out.below h (by omega))), ⟨enter_30, fun w' _ _ => HJN.out w'⟩, trivial⟩,
        by kernel_rfl, by kernel_rfl, by kernel_rfl, fun w1 w2 h hb => h.trans hb, Nat.le_refl _, fun _ _ h => (by cases h), fun _ _ _ _ h => (by cases h), fun i Φ h => (by rw [FreeX.no_rel (by kernel_rfl) i] at h; cases h), fun _ _ _ _ _ _ _ _ h => (by cases h), fun i t j x vs _ k Φ h => (by rw [FreeX.no_rel (by kernel_rfl) k] at h; cases h), fun _ _ _ _ _ _ _ _ => trivial⟩, ?loc, fun _ _ _ => rfl⟩
      (drew_below (Below.refl _ _)) rfl (fun _ _ h => (by cases h)) (fun β => Free.from_ 86 [.bool true, .bool true, .pointer (some ⟨w4.heap.size, 2, none⟩), RJ.sp.v, .pointer (some ⟨w7.heap.size, 2, none⟩), R.sp.v, whole.v, RJ.sp.v, .bool true, .bool true, .bool true, .pointer (some ⟨w4.heap.size, 0, none⟩), .int .i64 RJ.ver, .int .i64 ver, .bool true, .bool true, .bool true, .int .i64 0, .bool true, .bool true, undef, undef, .bool true, .bool true, .bool true, RJ.v sJ, .int .i64 ((liveL l).length : Int), R.v rs, .int .i64 ((liveL l).length : Int), .bool true, .bool true, .bool true, .string gv, .string gv, .bool true, .bool true, .bool true, .bool gb, .bool gb, .bool true, .bool true, .bool true, .pointer (some ⟨w8.heap.size, 2, none⟩), RA.sp.v, .pointer (some ⟨w8.heap.size + 1, 2, none⟩), RB.sp.v, .bool true, .bool true] ++ [(8, .bool true)]) (fun β => by kernel_rfl) ?_
    case loc => exact fun _ _ _ _ _ => rfl
    intro β w12 h12 _ _ _ _ _ _
    rw [FreeX.puts_append, Free.puts_from _ _ _ (Nat.le_of_ble_eq_true rfl)]
    simp only [List.take_succ_cons, List.take_zero, List.drop_succ_cons, List.drop_zero, List.cons_append, List.nil_append, List.length_cons, List.length_nil, Nat.reduceAdd]
    unfold Free.puts
    simp only [List.foldl_cons, List.foldl_nil]
    go_wp2_with fail
    go_ret
    exact ⟨rfl, (KF.out.next h12).1⟩
  · skip
    refine FreeX.region_puts (S := fun w' => Below w9.heap.size w9 w') (B0 := w9.heap.size) (w0 := w9.drew) (om := fun _ => 0) (olds := []) (far := fun _ _ => True)
      (tabs := fun β => [(3, .load 28 ⟨w4.heap.size, 2, none⟩ (RJ.sp.v)),
        (5, .load 28 ⟨w7.heap.size, 2, none⟩ (R.sp.v)),
        (6, .call 26 [] (whole.v)),
        (7, .call 29 [R.sp.v, whole.v] (RJ.sp.v)),
        (8, .cmp .eql 28 (RJ.sp.v) (RJ.sp.v) (.bool true)),
        (12, .load 3 ⟨w4.heap.size, 0, none⟩ (.int .i64 RJ.ver)),
        (14, .cmp .eql 3 (.int .i64 RJ.ver) (.int .i64 ver) (.bool true)),
        (18, .cmp .eql 3 (.int .i64 1) (.int .i64 0) (.bool false)),
        (21, .cmp .eql 3 (.int .i64 1) (.int .i64 1) (.bool true)),
        (25, .load 33 ⟨w4.heap.size, 0, none⟩ (RJ.v sJ)),
        (26, .call 17 [RJ.v sJ] (.int .i64 ((liveL l).length : Int))),
        (27, .load 33 ⟨w7.heap.size, 0, none⟩ (R.v rs)),
        (28, .call 17 [R.v rs] (.int .i64 ((liveL l).length : Int))),
        (29, .cmp .eql 3 (.int .i64 ((liveL l).length : Int)) (.int .i64 ((liveL l).length : Int)) (.bool true)),
        (34, .cmp .eql 9 (.string gv) (.string gv) (.bool true)),
        (39, .cmp .eql 4 (.bool gb) (.bool gb) (.bool true)),
        (43, .load 28 ⟨w8.heap.size, 2, none⟩ (RA.sp.v)),
        (45, .load 28 ⟨w8.heap.size + 1, 2, none⟩ (RB.sp.v)),
        (46, .call 30 [RA.sp.v, RB.sp.v] (.bool true))])
      (by kernel_rfl) ⟨fun β => ⟨by kernel_rfl, ⟨fun w' h _ => load_28 (At.rev (HJ.out.below h (by omega))), fun w' h _ => load_28 (At.rev (H9.out.below h (by omega))), ⟨enter_26, fun w' _ _ => whole_any w'⟩, ⟨enter_29, fun w' _ _ => HMT.out w'⟩, fun xo yo w => cmp_eql28 xo yo w RJ.sp, fun w' h _ => load_3 ((HJ.out.below h (by omega)) 0 _ rfl).1, fun xo yo w => cmp_eql3 xo yo w (by rw [HJV.out]; simp), fun xo yo w => cmp_eql3 xo yo w (by decide), fun xo yo w => cmp_eql3 xo yo w (by decide), fun w' h _ => rev_get (HJ.out.below h (by omega)), ⟨enter_17, fun w' h _ => HLJ.out w' h⟩, fun w' h _ => rev_get (H9.out.below h (by omega)), ⟨enter_17, fun w' h _ => HLR.out w' h⟩, fun xo yo w => cmp_eql3 xo yo w (by simp), fun xo yo w => cmp_eql9 xo yo w (by simp), fun xo yo w => cmp_eql4 xo yo w (by simp), fun w' h _ => load_28 (At.rev (HA.out.below h (by omega))), fun w' h _ => load_28 (At.rev (HB.out.below h (by omega))), ⟨enter_30, fun w' _ _ => HJN.out w'⟩, trivial⟩,
        by kernel_rfl, by kernel_rfl, by kernel_rfl, fun w1 w2 h hb => h.trans hb, Nat.le_refl _, fun _ _ h => (by cases h), fun _ _ _ _ h => (by cases h), fun i Φ h => (by rw [FreeX.no_rel (by kernel_rfl) i] at h; cases h), fun _ _ _ _ _ _ _ _ h => (by cases h), fun i t j x vs _ k Φ h => (by rw [FreeX.no_rel (by kernel_rfl) k] at h; cases h), fun _ _ _ _ _ _ _ _ => trivial⟩, ?loc, fun _ _ _ => rfl⟩
      (drew_below (Below.refl _ _)) rfl (fun _ _ h => (by cases h)) (fun β => Free.from_ 86 [.bool true, .bool true, .pointer (some ⟨w4.heap.size, 2, none⟩), RJ.sp.v, .pointer (some ⟨w7.heap.size, 2, none⟩), R.sp.v, whole.v, RJ.sp.v, .bool true, .bool true, .bool true, .pointer (some ⟨w4.heap.size, 0, none⟩), .int .i64 RJ.ver, .int .i64 ver, .bool true, .bool true, .bool true, .int .i64 1, .bool false, .bool false, .int .i64 1, .bool true, .bool true, .bool true, .bool true, RJ.v sJ, .int .i64 ((liveL l).length : Int), R.v rs, .int .i64 ((liveL l).length : Int), .bool true, .bool true, .bool true, .string gv, .string gv, .bool true, .bool true, .bool true, .bool gb, .bool gb, .bool true, .bool true, .bool true, .pointer (some ⟨w8.heap.size, 2, none⟩), RA.sp.v, .pointer (some ⟨w8.heap.size + 1, 2, none⟩), RB.sp.v, .bool true, .bool true] ++ [(8, .bool true)]) (fun β => by kernel_rfl) ?_
    case loc => exact fun _ _ _ _ _ => rfl
    intro β w12 h12 _ _ _ _ _ _
    rw [FreeX.puts_append, Free.puts_from _ _ _ (Nat.le_of_ble_eq_true rfl)]
    simp only [List.take_succ_cons, List.take_zero, List.drop_succ_cons, List.drop_zero, List.cons_append, List.nil_append, List.length_cons, List.length_nil, Nat.reduceAdd]
    unfold Free.puts
    simp only [List.foldl_cons, List.foldl_nil]
    go_wp2_with fail
    go_ret
    exact ⟨rfl, (KF.out.next h12).1⟩
theorem back_any (ver : Int) (sp : Sp) (a : Option Addr) (l : List En) (c : Nat) (k : ByteArray) (w : World) (hE : Ents w a l) :
    Calls Try.prog 6 #[.int .i64 ver, sp.v, .slice a l.length c, .string k] w fun e w' => e = .returned (.bool true) ∧ Below w.heap.size w w' := by
  by_cases h : FewE l ∧ sp.brief = true ∧ k.size ≤ 40
  · exact back_yes ver sp a l c k w hE h.1 h.2.1 h.2.2
  · exact back_no ver sp a l c k w hE fun h1 h2 h3 => h ⟨h1, h2, h3⟩
end Go.Proofs.Ytkapjijppjfmkaa
