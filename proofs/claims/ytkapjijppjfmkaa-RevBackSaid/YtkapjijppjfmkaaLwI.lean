/- rev.Split of a revision with fewer than two keys that have values; rev.Join of two revisions, the second one of which begins where the first one ends. Conditions: at most 200 entries each, all with values, at least one in each, keys of at most 1000000 bytes, which stand in memory. -/
import Derived.Test.YtkapjijppjfmkaaLwH
namespace Go.Proofs.Ytkapjijppjfmkaa
open Go.RowKit Go.Op
set_option maxRecDepth 100000

theorem enter_39 (xs : Array Value) (w : World) : (callFunc 39 xs).run Try.prog w = .ok (.enter 39 xs) w := by kernel_rfl
theorem genx_max {S F : World → Prop} {K : World → World → Prop} {D : Value → World → Prop} {oo : Option Oper} (o0 : Oper) (ho : oo = some o0) {x y : Operand} (hop : o0.op = .call { callee := .builtin .max, args := #[x, y], argTypes := #[3, 3] }) (a : Int) :
    (FreeX.Ent.gen [.int .i64 a, .int .i64 a] (.int .i64 a)).Ok Try.prog S F oo K D := by
  rintro o h1 ρ h2 w _ _
  rw [ho] at h1
  cases h1
  rw [hop] at h2
  simp [Op.operands, Call.operands] at h2
  simp [execOp, hop, h2.1, h2.2, resolve, invoke, builtin, go_sem]
theorem sp_new (s : Sp) (w : World) : ∃ W, (Instr.storeAt 28 (.pointer (some ⟨w.heap.size, 0, none⟩)) s.v).run Try.prog (w.alloc (.cells #[.string ⟨#[]⟩, .string ⟨#[]⟩, .bool false] 28)) = .ok () W ∧ Free.Holds w.heap.size s.cells W ∧ Below w.heap.size w W ∧ w.heap.size < W.heap.size := by
  have hh := holds_alloc w #[.string ⟨#[]⟩, .string ⟨#[]⟩, .bool false] 28 w.heap.size zero.cells rfl rfl
  exact ⟨_, put_ks s w.heap.size _ zero.cells rfl hh, hh.put rfl, Free.below_setCells (Nat.le_refl _) _ _ _ ((Below.refl _ _).alloc (Nat.le_refl _) _), by rw [Free.size_setCells]; simp⟩
/-- append to a row that is full. -/
theorem append_full (g g2 : Nat) (l m : List En) (w : World) (hl : l.length ≤ 1000000) (hm : m.length ≤ 1000000) (hE : Ents w (some ⟨g, 0, none⟩) l) (hM : Ents w (some ⟨g2, 0, none⟩) m) (h0 : l ≠ []) (h1 : m ≠ []) (N : Nat) (hN : N ≤ w.heap.size) (ty : TypeId) :
    ∃ v w', (Builtin.append_ #[38, 38] ty #[.slice (some ⟨g, 0, none⟩) l.length l.length, .slice (some ⟨g2, 0, none⟩) m.length m.length]).run Try.prog w = .ok v w' ∧ IsE N (l ++ m) v w' ∧ Below w.heap.size w w' := by
  obtain ⟨i0, hi, hz0, hz1, hz2⟩ := info_parts info72
  obtain ⟨g', o', e', hn'⟩ := news_of hE h0
  cases e'
  obtain ⟨g', o', e', hn⟩ := news_of hM h1
  cases e'
  have hp : 0 < m.length := List.length_pos_iff.2 h1
  have hr := run_append_grow (P := Try.prog) w 38 ty 72 i0 _ Try.underlying38 hi hz0 ⟨g, 0, none⟩ l.length l.length (enRow l) (by rw [enRow_length, hz1]) hn' ⟨g2, 0, none⟩ m.length m.length (enRow m) (by rw [enRow_length, hz1]) hn (by omega) (by omega) (growslice_fits (by omega) (by rw [hz2]; omega))
  generalize grownCap w (l.length + m.length) l.length 72 = cap at hr
  refine ⟨_, _, hr, ⟨some ⟨w.heap.size, 0, none⟩, cap, by rw [List.length_append], .inr ⟨w.heap.size, 0, rfl, by simp, fun k hk => ?_⟩, fun x hx _ => by cases hx; exact hN⟩, drew_below ((Below.refl w.heap.size w).alloc (Nat.le_refl _) _)⟩
  obtain ⟨e1, e2, e3⟩ := enRow_get (l ++ m) k hk
  rw [enRow_append] at e1 e2 e3
  have hc : ∀ j u, (enRow l ++ enRow m)[j]? = some u → (w.drew.alloc (.cells ((enRow l).toArray ++ (enRow m).toArray ++ Builtin.zeroCells (Value.agg #[.string ⟨#[]⟩, .string ⟨#[]⟩, .bool false]).cells (cap - (l.length + m.length))) 72)).cell? ⟨w.heap.size, j, none⟩ = some u := fun j u hj => by
    have hlt := (List.getElem?_eq_some_iff.1 hj).1
    rw [show w.heap.size = w.drew.heap.size from rfl, World.cell?_alloc_new]
    rw [Array.getElem?_append_left (by simp only [Array.size_append, List.size_toArray]; rw [List.length_append] at hlt; exact hlt)]
    rw [← hj]
    simp
  rw [Nat.zero_add]
  exact ⟨hc _ _ e1, hc _ _ e2, hc _ _ e3⟩

set_option maxHeartbeats 1000000 in
theorem split_no (ver rate : Int) (sp : Sp) (l : List En) (tab : List Int) (s : Rs) (w : World) (hl : l.length ≤ 200) (hR : RevAt w ⟨ver, rate, sp, false, l, tab⟩ s) (h2 : (liveL l).length < 2) :
    Calls Try.prog 27 #[(Rm.mk ver rate sp false l tab).v s] w fun e w' => e = .returned (.tuple #[Rm.none.v Rs.none, Rm.none.v Rs.none, .bool false]) ∧ Below w.heap.size w w' := by
  obtain ⟨wa, hwa⟩ : ∃ wa, wa = ((w.alloc (.cells ((Rm.mk ver rate sp false l tab).row s).toArray 33)).alloc (.cells Rm.none.zeroRow.toArray 33)).alloc (.cells Rm.none.zeroRow.toArray 33) := ⟨_, rfl⟩
  have hza : wa.heap.size = w.heap.size + 3 := by subst hwa; simp
  have hba : Below w.heap.size w wa := by subst hwa; exact (((Below.refl _ _).alloc (Nat.le_refl _) _).alloc (by simp) _).alloc (by simp; omega) _
  have hS0 : Free.Holds w.heap.size ((Rm.mk ver rate sp false l tab).row s) wa := by
    subst hwa
    exact Free.Holds.below (holds_alloc w ((Rm.mk ver rate sp false l tab).row s).toArray 33 w.heap.size _ rfl rfl) (((Below.refl _ _).alloc (Nat.le_refl _) _).alloc (by simp) _) (by simp)
  have hZ1 : Free.Holds (w.heap.size + 1) Rm.none.zeroRow wa := by
    subst hwa
    refine Free.Holds.below (holds_alloc (w.alloc (.cells ((Rm.mk ver rate sp false l tab).row s).toArray 33)) Rm.none.zeroRow.toArray 33 (w.heap.size + 1) _ (by simp) rfl) ((Below.refl _ _).alloc (Nat.le_refl _) _) (by simp)
  have hZ2 : Free.Holds (w.heap.size + 1 + 1) Rm.none.zeroRow wa := by
    subst hwa
    exact holds_alloc _ _ _ _ _ (by simp) rfl
  have hl0 := rev_get hS0
  have hlv := live_any ⟨ver, rate, sp, false, l, tab⟩ s wa (by show l.length ≤ _; omega) (hR.below hba)
  have HW := Lib.hid hwa
  have HZ1 := Lib.hid hZ1
  have HZ2 := Lib.hid hZ2
  have HB := Lib.hid hba
  rw [HW.out] at hl0 hlv
  clear hwa hS0 hZ1 hZ2 hR hba
  simp only at hlv
  generalize (liveL l).length = len at h2 hlv
  have i1 : (len : Int) < 2 := by omega
  unfold Rm.zeroRow Rm.row at hl0 hlv
  simp only [Rm.v] at hl0 hlv ⊢
  go_enter Try.func27, Try.ntmps27
  go_wp2_with (refine wpList_run_load rfl 33 (.tmp 1) rfl _ _ rfl hl0 ?_)
  refine hlv.mono ?_
  rintro e w2 ⟨g, rfl, hg, hO, b2⟩
  replace b2 : Below wa.heap.size wa w2 := by rw [HW.out]; exact b2
  rw [hza] at b2
  have hz2 := b2.size
  obtain ⟨W, hst, hW, hld, hqq, hsz⟩ := rev_done Rm.none Rs.none (HZ1.out.below b2 (by omega)) rfl
  have hZW : Free.Holds (w.heap.size + 1 + 1) Rm.none.zeroRow W := by
    rw [hW]
    exact (HZ2.out.below b2 (by omega)).other (by omega)
  obtain ⟨W3, hst3, hW3, hld3, hqq3, hsz3⟩ := rev_done Rm.none Rs.none hZW rfl
  have hldd : (loadVar 33 ⟨w.heap.size + 1, 0, none⟩).run Try.prog W3 = .ok (Rm.none.v Rs.none) W3 := by
    refine run_loadVar_mid W3 (w.heap.size + 1) 0 33 _ _ (holds_range (zs := Rm.none.row Rs.none) ?_) Try.underlying33 rfl size33
    rw [hW3]
    refine Free.Holds.other ?_ (by omega)
    rw [hW]
    exact (HZ1.out.below b2 (by omega)).put rfl
  have HB1 : Hid (Below w.heap.size w W3) := Lib.hid (by
    rw [hW3]
    refine Free.below_setCells (by omega) _ _ _ ?_
    rw [hW]
    exact Free.below_setCells (by omega) _ _ _ (HB.out.trans (b2.mono (by omega))))
  simp only [Rm.v, Rm.none, Rs.none, zero, List.length_nil] at hst hst3 hldd hld3
  clear hW hqq hsz hld b2 hlv hl0 HW HZ1 HZ2 HB hW3 hqq3 hsz3 hZW hO hg
  go_wp2_with (first | (refine wpList_run_store rfl 33 (.tmp 2) (.tmp 14) rfl _ _ rfl rfl W hst ?_) | (refine wpList_run_store rfl 33 (.tmp 3) (.tmp 15) rfl _ _ rfl rfl W3 hst3 ?_))
  exact bodyPost_ret (results_cell3 Try.results27 rfl rfl rfl hldd hld3) rfl ⟨rfl, HB1.out⟩

set_option maxHeartbeats 1000000 in
theorem join_any (ver rate : Int) (sa sb : Sp) (la lb : List En) (ta tb : List Int) (s1 s2 : Rs) (w : World) (hl1 : la.length ≤ 200) (hl2 : lb.length ≤ 200) (hk1 : ∀ e ∈ la, e.key.size ≤ 1000000) (hk2 : ∀ e ∈ lb, e.key.size ≤ 1000000)
    (hA : RevAt w ⟨ver, rate, sa, false, la, ta⟩ s1) (hB : RevAt w ⟨ver, rate, sb, false, lb, tb⟩ s2) (ga : sa.good = true) (gb : sb.good = true) (gj : sa.joins sb = true) (n1 : la ≠ []) (n2 : lb ≠ []) (l1 : liveL la = la) (l2 : liveL lb = lb) :
    Calls Try.prog 28 #[(Rm.mk ver rate sa false la ta).v s1, (Rm.mk ver rate sb false lb tb).v s2] w fun e w' => ∃ s', e = .returned (.tuple #[(Rm.mk ver rate ⟨sa.lo, sb.hi, sb.all⟩ false (la ++ lb) (build ((la ++ lb).map En.key))).v s', .bool true]) ∧ RevAt w' ⟨ver, rate, ⟨sa.lo, sb.hi, sb.all⟩, false, la ++ lb, build ((la ++ lb).map En.key)⟩ s' ∧ Below w.heap.size w w' := by
  have hgd1 := fun w => good_any sa w
  have hgd2 := fun w => good_any sb w
  have hgj := fun w => joins_any sa sb w
  rw [ga] at hgd1
  rw [gb] at hgd2
  rw [gj] at hgj
  obtain ⟨al, ah, aa⟩ := sa
  obtain ⟨bl, bh, ba⟩ := sb
  simp only
  obtain ⟨T, hT⟩ : ∃ T, T = build ((la ++ lb).map En.key) := ⟨_, rfl⟩
  have hly := fun ad c w' (hE : Ents w' ad (la ++ lb)) => lay_any ver rate ⟨al, bh, ba⟩ ad (la ++ lb) c w' (by rw [List.length_append]; omega) (fun e he => (List.mem_append.1 he).elim (hk1 e) (hk2 e)) hE
  rw [← hT] at hly ⊢
  have HLY := Lib.hid hly
  obtain ⟨row1, hrow1⟩ : ∃ row, row = (Rm.mk ver rate ⟨al, ah, aa⟩ false la ta).row s1 := ⟨_, rfl⟩
  obtain ⟨row2, hrow2⟩ : ∃ row, row = (Rm.mk ver rate ⟨bl, bh, ba⟩ false lb tb).row s2 := ⟨_, rfl⟩
  obtain ⟨wa, hwa⟩ : ∃ wa, wa = ((w.alloc (.cells row1.toArray 33)).alloc (.cells row2.toArray 33)).alloc (.cells Rm.none.zeroRow.toArray 33) := ⟨_, rfl⟩
  have hza : wa.heap.size = w.heap.size + 3 := by subst hwa; simp
  have hba : Below w.heap.size w wa := by subst hwa; exact (((Below.refl _ _).alloc (Nat.le_refl _) _).alloc (by simp) _).alloc (by simp; omega) _
  have hS1 : wa.rangeAt w.heap.size 0 row1 := by
    subst hwa
    exact range_stay (holds_range (holds_alloc w row1.toArray 33 w.heap.size row1 rfl rfl)) (((Below.refl (w.heap.size + 1) _).alloc (by simp) _).alloc (by simp) _) (by omega)
  have hS2 : wa.rangeAt (w.heap.size + 1) 0 row2 := by
    subst hwa
    exact range_stay (holds_range (holds_alloc (w.alloc (.cells row1.toArray 33)) row2.toArray 33 (w.heap.size + 1) row2 (by simp) rfl)) ((Below.refl (w.heap.size + 2) _).alloc (by simp) _) (by omega)
  have hZ : Free.Holds (w.heap.size + 1 + 1) Rm.none.zeroRow wa := by
    subst hwa
    exact holds_alloc _ _ _ _ _ (by simp) rfl
  have hv1 := fun w' (hb : Below w.heap.size w w') => live_any ⟨ver, rate, ⟨al, ah, aa⟩, false, la, ta⟩ s1 w' (by show la.length ≤ _; omega) (hA.below hb)
  have hv2 := fun w' (hb : Below w.heap.size w w') => live_any ⟨ver, rate, ⟨bl, bh, ba⟩, false, lb, tb⟩ s2 w' (by show lb.length ≤ _; omega) (hB.below hb)
  simp only [l1] at hv1
  simp only [l2] at hv2
  have hc1 : ∀ w' : World, w'.rangeAt w.heap.size 0 row1 → w'.cell? ⟨w.heap.size, 2, none⟩ = some (.string al) ∧ w'.cell? ⟨w.heap.size, 3, none⟩ = some (.string ah) ∧ w'.cell? ⟨w.heap.size, 4, none⟩ = some (.bool aa) ∧ w'.cell? ⟨w.heap.size, 5, none⟩ = some (.bool false) := fun w' h => by
    subst hrow1
    exact ⟨h 2 _ rfl, h 3 _ rfl, h 4 _ rfl, h 5 _ rfl⟩
  have hc2 : ∀ w' : World, w'.rangeAt (w.heap.size + 1) 0 row2 → w'.cell? ⟨w.heap.size + 1, 2, none⟩ = some (.string bl) ∧ w'.cell? ⟨w.heap.size + 1, 3, none⟩ = some (.string bh) ∧ w'.cell? ⟨w.heap.size + 1, 4, none⟩ = some (.bool ba) ∧ w'.cell? ⟨w.heap.size + 1, 5, none⟩ = some (.bool false) := fun w' h => by
    subst hrow2
    exact ⟨h 2 _ rfl, h 3 _ rfl, h 4 _ rfl, h 5 _ rfl⟩
  have hr10 : row1[0]? = some (.int .i64 ver) := by rw [hrow1]; rfl
  have hr11 : row1[1]? = some (.int .i64 rate) := by rw [hrow1]; rfl
  have hr20 : row2[0]? = some (.int .i64 ver) := by rw [hrow2]; rfl
  have hr21 : row2[1]? = some (.int .i64 rate) := by rw [hrow2]; rfl
  have hld1 : ∀ w' : World, w'.rangeAt w.heap.size 0 row1 → (Instr.loadAt 33 (.pointer (some ⟨w.heap.size, 0, none⟩))).run Try.prog w' = .ok ((Rm.mk ver rate ⟨al, ah, aa⟩ false la ta).v s1) w' := fun w' h => by
    subst hrow1
    exact run_loadAt_mid w' w.heap.size 0 33 _ _ h Try.underlying33 rfl size33
  have hld2 : ∀ w' : World, w'.rangeAt (w.heap.size + 1) 0 row2 → (Instr.loadAt 33 (.pointer (some ⟨w.heap.size + 1, 0, none⟩))).run Try.prog w' = .ok ((Rm.mk ver rate ⟨bl, bh, ba⟩ false lb tb).v s2) w' := fun w' h => by
    subst hrow2
    exact run_loadAt_mid w' (w.heap.size + 1) 0 33 _ _ h Try.underlying33 rfl size33
  obtain ⟨k2, k3, k4, k5⟩ := hc1 wa hS1
  obtain ⟨m2, m3, m4, m5⟩ := hc2 wa hS2
  have HW := Lib.hid (hrow1 ▸ hrow2 ▸ hwa)
  have HZ := Lib.hid hZ
  have HB := Lib.hid hba
  have HS1 := Lib.hid hS1
  have HS2 := Lib.hid hS2
  have HC1 := Lib.hid hc1
  have HC2 := Lib.hid hc2
  have HV1 := Lib.hid hv1
  have HV2 := Lib.hid hv2
  have HL1 := Lib.hid hld1
  have HL2 := Lib.hid hld2
  have HN1 := Lib.hid n1
  have HN2 := Lib.hid n2
  rw [HW.out] at k2 k3 k4 k5 m2 m3 m4 m5
  clear hwa hba hS1 hS2 hZ hv1 hv2 hc1 hc2 hld1 hld2 hrow1 hrow2 hA hB hly hT ga gb gj hk1 hk2 n1 n2 l1 l2
  unfold Rm.zeroRow Rm.row at k2 k3 k4 k5 m2 m3 m4 m5
  simp only [Rm.v, Sp.v] at hgd1 hgd2 hgj ⊢
  have hg0 := hgd1 wa
  rw [HW.out] at hg0
  unfold Rm.zeroRow Rm.row at hg0
  go_enter Try.func28, Try.ntmps28
  go_wp2_with fail
  refine hg0.mono ?_
  rintro e w1 ⟨rfl, b1⟩
  replace b1 : Below wa.heap.size wa w1 := by rw [HW.out]; exact b1
  have z1 := b1.size
  have hb1 := HB.out.trans (b1.mono (by omega))
  have hs1 := range_stay HS1.out b1 (by omega)
  have hs2 := range_stay HS2.out b1 (by omega)
  have hz1 := HZ.out.below b1 (by omega)
  rw [hza] at z1
  have H1 := Lib.hid (⟨hs1, hs2, hz1, hb1⟩ : _ ∧ _ ∧ _ ∧ _)
  clear k2 k3 k4 k5 m2 m3 m4 m5 hg0 HW HZ HB HS1 HS2 hza b1 hs1 hs2 hz1 hb1
  obtain ⟨m2, m3, m4, m5⟩ := HC2.out w1 H1.out.2.1
  go_wp2_with fail
  refine (hgd2 w1).mono ?_
  rintro e w2 ⟨rfl, b2⟩
  have z2 := b2.size
  have H2 := Lib.hid (⟨range_stay H1.out.1 b2 (by omega), range_stay H1.out.2.1 b2 (by omega), H1.out.2.2.1.below b2 (by omega), H1.out.2.2.2.trans (b2.mono (by omega))⟩ : _ ∧ _ ∧ _ ∧ _)
  clear m2 m3 m4 m5 H1 b2
  obtain ⟨m2, m3, m4, m5⟩ := HC2.out w2 H2.out.2.1
  obtain ⟨k2, k3, k4, k5⟩ := HC1.out w2 H2.out.1
  go_wp2_with fail
  refine (hgj w2).mono ?_
  rintro e w3 ⟨rfl, b3⟩
  have z3 := b3.size
  have H3 := Lib.hid (⟨range_stay H2.out.1 b3 (by omega), range_stay H2.out.2.1 b3 (by omega), H2.out.2.2.1.below b3 (by omega), H2.out.2.2.2.trans (b3.mono (by omega))⟩ : _ ∧ _ ∧ _ ∧ _)
  clear m2 m3 m4 m5 k2 k3 k4 k5 H2 b3
  obtain ⟨m2, m3, m4, m5⟩ := HC2.out w3 H3.out.2.1
  obtain ⟨k2, k3, k4, k5⟩ := HC1.out w3 H3.out.1
  obtain ⟨W4, hst, hW4, bW4, sW4⟩ := sp_new ⟨al, bh, ba⟩ w3
  simp only [Sp.v] at hst
  have H4 := Lib.hid (⟨range_stay H3.out.1 bW4 (by omega), range_stay H3.out.2.1 bW4 (by omega), H3.out.2.2.1.below bW4 (by omega), H3.out.2.2.2.trans (bW4.mono (by omega)), hW4⟩ : _ ∧ _ ∧ _ ∧ _ ∧ _)
  have z4 := bW4.size
  have hz4 : w.heap.size + 3 ≤ W4.heap.size := by omega
  have hdr := drew_below (Below.refl W4.heap.size W4)
  have HS4 := Lib.hid (show W4.drew.rangeAt w.heap.size 0 row1 ∧ W4.drew.rangeAt (w.heap.size + 1) 0 row2 ∧ Free.Holds w3.heap.size (Sp.mk al bh ba).cells W4.drew ∧ Below w.heap.size w W4.drew ∧ w.heap.size + 3 ≤ W4.drew.heap.size from
    ⟨range_stay H4.out.1 hdr (by omega), range_stay H4.out.2.1 hdr (by omega), H4.out.2.2.2.2.below hdr sW4, H4.out.2.2.2.1.trans (hdr.mono (by omega)), by rw [drew_size]; exact hz4⟩)
  clear bW4 hW4 H3 hgd1 hgd2 hgj hdr
  go_wp2_with (refine wpList_run_store rfl 28 (.tmp 6) (.tmp 43) rfl _ _ rfl rfl W4 hst ?_)
  clear hst m2 m3 m4 m5 k2 k3 k4 k5
  refine FreeX.region_putsY (S := fun w' => w'.rangeAt w.heap.size 0 row1 ∧ w'.rangeAt (w.heap.size + 1) 0 row2 ∧ Free.Holds w3.heap.size (Sp.mk al bh ba).cells w' ∧ Below w.heap.size w w' ∧ w.heap.size + 3 ≤ w'.heap.size) (B0 := w.heap.size + 2) (w0 := W4.drew) (om := fun _ => w.heap.size + 1 + 1) (olds := [(0, Rm.none.zeroRow)]) (far := fun _ _ => True)
    (tabs := fun β => [(1, .load 3 ⟨w.heap.size, 0, none⟩ (.int .i64 ver)),
      (3, .load 3 ⟨w.heap.size + 1, 0, none⟩ (.int .i64 ver)),
      (4, .gen [.int .i64 ver, .int .i64 ver] (.int .i64 ver)),
      (6, .load 3 ⟨w.heap.size, 1, none⟩ (.int .i64 rate)),
      (8, .load 3 ⟨w.heap.size + 1, 1, none⟩ (.int .i64 rate)),
      (9, .gen [.int .i64 rate, .int .i64 rate] (.int .i64 rate)),
      (10, .load 28 ⟨w3.heap.size, 0, none⟩ ((Sp.mk al bh ba).v)),
      (11, .load 33 ⟨w.heap.size, 0, none⟩ ((Rm.mk ver rate ⟨al, ah, aa⟩ false la ta).v s1)),
      (12, .rel 39 [(Rm.mk ver rate ⟨al, ah, aa⟩ false la ta).v s1] (IsG (w.heap.size + 3) la)),
      (13, .load 33 ⟨w.heap.size + 1, 0, none⟩ ((Rm.mk ver rate ⟨bl, bh, ba⟩ false lb tb).v s2)),
      (14, .rel 39 [(Rm.mk ver rate ⟨bl, bh, ba⟩ false lb tb).v s2] (IsG (w.heap.size + 3) lb)),
      (15, .app [(β 12).2, (β 14).2] (IsE (w.heap.size + 3) (la ++ lb))),
      (16, .rel 32 [.int .i64 ver, .int .i64 rate, (Sp.mk al bh ba).v, (β 15).2] (IsR (w.heap.size + 3) ⟨ver, rate, ⟨al, bh, ba⟩, false, la ++ lb, T⟩)),
      (17, .put 33 (.old 0) ((β 16).2) (rowOf (β 16).2))])
    (by kernel_rfl) ⟨fun β => ⟨by kernel_rfl, ⟨fun w' h _ => load_3 (h.1 0 _ hr10), fun w' h _ => load_3 (h.2.1 0 _ hr20), genx_max _ rfl rfl ver, fun w' h _ => load_3 (h.1 1 _ hr11), fun w' h _ => load_3 (h.2.1 1 _ hr21), genx_max _ rfl rfl rate, fun w' h _ => load_28 (At.of (w := w') h.2.2.1), ?ld1, ?e1, ?ld2, ?e2, ?eapp, ?e32, fun bb w' zs _ hf hz hh => put_rev (hf 16 _ rfl (by kernel_rfl)) bb zs hz hh, trivial⟩,
      by kernel_rfl, by kernel_rfl, by kernel_rfl, ?so, ?ss, by rw [drew_size]; omega, ?ol, ?od, FreeX.rel_all (C := fun Φ => ∀ v w w', Φ v w → Below w.heap.size w w' → Φ v w') ⟨fun v w w' h hb => h.below hb, fun v w w' h hb => h.below hb, fun v w w' h hb => h.below hb, fun v w w' h hb => h.below hb, trivial⟩, ?ro, fun i t j x vs h => absurd h (FreeX.no_own (by kernel_rfl) i t j x vs), fun _ _ _ _ _ _ _ _ => trivial⟩, ?loc, fun _ _ _ => rfl⟩
    HS4.out rfl ?hol (fun β => Free.from_ 44 [.pointer (some ⟨w.heap.size, 0, none⟩), .int .i64 ver, .pointer (some ⟨w.heap.size + 1, 0, none⟩), .int .i64 ver, .int .i64 ver, .pointer (some ⟨w.heap.size, 1, none⟩), .int .i64 rate, .pointer (some ⟨w.heap.size + 1, 1, none⟩), .int .i64 rate, .int .i64 rate, (Sp.mk al bh ba).v, (Rm.mk ver rate ⟨al, ah, aa⟩ false la ta).v s1, (β 12).2, (Rm.mk ver rate ⟨bl, bh, ba⟩ false lb tb).v s2, (β 14).2, (β 15).2, (β 16).2] ++ [(5, .bool true)]) (fun β => by kernel_rfl) ?_
  case loc =>
    intro β i nn j h
    refine FreeX.look_cons (fun _ => rfl) (FreeX.look_cons (fun _ => rfl) (FreeX.look_cons (fun _ => rfl) (FreeX.look_cons (fun _ => rfl) (FreeX.look_cons (fun _ => rfl) (FreeX.look_cons (fun _ => rfl) (FreeX.look_cons (fun _ => rfl) (FreeX.look_cons (fun _ => rfl) (FreeX.look_cons (fun _ => rfl) (FreeX.look_cons (fun _ => rfl) (FreeX.look_cons (fun _ => rfl) (FreeX.look_cons (fun hj => ?_) (FreeX.look_cons (fun hj => ?_) (FreeX.look_cons (fun hj => ?_) (rfl))))))))))))))
    · subst hj
      rw [FreeX.upd_ne (k := 12) h (by kernel_rfl), FreeX.upd_ne (k := 14) h (by kernel_rfl)]
    · subst hj
      rw [FreeX.upd_ne (k := 15) h (by kernel_rfl)]
    · subst hj
      rw [FreeX.upd_ne (k := 16) h (by kernel_rfl)]
  case so =>
    intro w' p zs vs hp h
    obtain ⟨h1, h2, h3, h4, h5⟩ := h
    exact ⟨range_put h1 (by omega) vs, range_put h2 (by omega) vs, h3.other (by omega), Free.below_setCells (by omega) _ _ _ h4, by rw [Free.size_setCells]; exact h5⟩
  case ss =>
    intro v1 v4 h hb
    rw [drew_size] at hb
    obtain ⟨h1, h2, h3, h4, h5⟩ := h
    exact ⟨range_stay h1 hb (by omega), range_stay h2 hb (by omega), h3.below hb sW4, h4.trans (hb.mono (by omega)), Nat.le_trans h5 hb.size⟩
  case ol =>
    intro p zs hp
    rw [drew_size]
    omega
  case od =>
    intro p q zs zs' hp hq hne
    simp only [List.mem_cons, List.not_mem_nil, or_false, Prod.mk.injEq] at hp hq
    omega
  case ro => exact FreeX.rel_all (C := fun Φ => ∀ v w1 p zs vs, (p, zs) ∈ [(0, Rm.none.zeroRow)] → Φ v w1 → Φ v (w1.setCells (w.heap.size + 1 + 1) 0 vs)) ⟨fun v w1 p zs vs _ h => h.put (by omega) vs, fun v w1 p zs vs _ h => h.put (by omega) vs, fun v w1 p zs vs _ h => h.put (by omega) vs, fun v w1 p zs vs _ h => h.put (by omega) vs, trivial⟩
  case hol =>
    intro p zs hp
    simp only [List.mem_cons, List.not_mem_nil, or_false, Prod.mk.injEq] at hp
    obtain ⟨rfl, rfl⟩ := hp
    exact H4.out.2.2.1.below (drew_below (Below.refl W4.heap.size W4)) (by omega)
  case ld1 => exact fun w' h _ => HL1.out w' h.1
  case ld2 => exact fun w' h _ => HL2.out w' h.2.1
  case e1 =>
    refine ⟨enter_39, fun w' h _ => (HV1.out w' h.2.2.2.1).mono ?_⟩
    rintro e w2 ⟨g, rfl, hg, hO, hb⟩
    have := h.2.2.2.2
    obtain ⟨a', c', e1, hE', _⟩ := hO.ents
    cases e1
    exact ⟨_, rfl, ⟨g, rfl, hE', by omega⟩, hb, fun _ _ _ => trivial⟩
  case e2 =>
    refine ⟨enter_39, fun w' h _ => (HV2.out w' h.2.2.2.1).mono ?_⟩
    rintro e w2 ⟨g, rfl, hg, hO, hb⟩
    have := h.2.2.2.2
    obtain ⟨a', c', e1, hE', _⟩ := hO.ents
    cases e1
    exact ⟨_, rfl, ⟨g, rfl, hE', by omega⟩, hb, fun _ _ _ => trivial⟩
  case eapp =>
    refine app_at _ rfl rfl fun ty w' h hf => ?_
    obtain ⟨g1, e1, hE1, _⟩ : IsG (w.heap.size + 3) la (β 12).2 w' := hf 12 _ rfl (by kernel_rfl)
    obtain ⟨g2, e2, hE2, _⟩ : IsG (w.heap.size + 3) lb (β 14).2 w' := hf 14 _ rfl (by kernel_rfl)
    rw [e1, e2]
    obtain ⟨v, w2, hr, hv, hb⟩ := append_full g1 g2 la lb w' (by omega) (by omega) hE1 hE2 HN1.out HN2.out (w.heap.size + 3) h.2.2.2.2 ty
    exact ⟨v, w2, hr, hv, .inl hb, fun _ _ _ => trivial⟩
  case e32 =>
    refine ⟨enter_32, fun w' h hf => ?_⟩
    obtain ⟨ad, c, e11, hE11, _⟩ : IsE (w.heap.size + 3) (la ++ lb) (β 15).2 w' := hf 15 _ rfl (by kernel_rfl)
    rw [e11]
    refine (HLY.out ad c w' hE11).mono ?_
    rintro e w2 ⟨s', rfl, hrev, hfr, hb⟩
    exact ⟨_, rfl, ⟨s', rfl, hrev, Rs.from_mono (s := s') hfr h.2.2.2.2⟩, hb, fun _ _ _ => trivial⟩
  intro β w5 hs5 hz5 hb5 _ _ hold hrel
  obtain ⟨s', e16, hrev, hfr⟩ : IsR (w.heap.size + 3) ⟨ver, rate, ⟨al, bh, ba⟩, false, la ++ lb, T⟩ (β 16).2 w5 := hrel 16 _ rfl
  have hC : Free.Holds (w.heap.size + 1 + 1) (rowOf (β 16).2) w5 := hold 0 _ (List.mem_cons_self ..)
  have hbw := hs5.2.2.2.1
  rw [FreeX.puts_append, Free.puts_from _ _ _ (Nat.le_of_ble_eq_true rfl)]
  simp only [List.length_cons, List.length_nil, Nat.reduceAdd]
  unfold Free.puts
  simp only [List.foldl_cons, List.foldl_nil]
  rw [e16, rowOf_v] at hC
  rw [e16]
  have hld : (loadVar 33 ⟨w.heap.size + 1 + 1, 0, none⟩).run Try.prog w5 = .ok ((Rm.mk ver rate ⟨al, bh, ba⟩ false (la ++ lb) T).v s') w5 := run_loadVar_mid w5 (w.heap.size + 1 + 1) 0 33 _ _ (holds_range hC) Try.underlying33 rfl size33
  have HF := Lib.hid (⟨hrev, hbw⟩ : _ ∧ _)
  clear hs5 hz5 hb5 hold hrel e16 hC hrev hbw hfr
  simp only [Rm.v] at hld ⊢
  go_wp2_with fail
  exact bodyPost_ret (results_cell2 Try.results28 rfl rfl hld) rfl ⟨s', rfl, HF.out.1, HF.out.2⟩
end Go.Proofs.Ytkapjijppjfmkaa
