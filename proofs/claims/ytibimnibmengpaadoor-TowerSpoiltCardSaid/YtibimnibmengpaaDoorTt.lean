/- What the law's lay comes to: a row of nodes, one of each low, with so many links as are told. Conditions: the library's table stands; at most 40 keys. -/
import Derived.Test.YtibimnibmengpaaDoorTs
namespace Go.Proofs.YtibimnibmengpaaDoor
open Go.RowKit Go.Op Go.Sort
set_option maxRecDepth 100000

set_option maxHeartbeats 8000000 in
theorem lay_any (w : World) (hT : TabAt w) (vk : Value) (a2 : Option Addr) (cap2 : Nat) (ks : List ByteArray) (us : List Nat) (hk : ks.length ≤ 40) (hks : KArg w vk ks) (hus : UArg w a2 us) (hul : us.length ≤ 9223372036854775807) :
    Calls Tryd.prog 12 #[vk, .slice a2 us.length cap2] w fun e w' => (∃ b c r G m y l, e = .returned (.tuple #[Yr.v y, .bool true]) ∧ LaidY w (lowsOf ks) (htsOf us (lowsOf ks).length) w' b c r G m y l) ∧ Below w.heap.size w w' := by
  obtain ⟨wa, hwa⟩ : ∃ W, W = w.alloc (.cells #[.pointer none, .slice none 0 0, .slice none 0 0, .slice none 0 0] 29) := ⟨_, rfl⟩
  have hza : wa.heap.size = w.heap.size + 1 := by rw [hwa]; simp
  have hba : Below w.heap.size w wa := by rw [hwa]; exact (Below.refl _ _).alloc (Nat.le_refl _) _
  have v4 : SVar wa w.heap.size [.pointer none, .slice none 0 0, .slice none 0 0, .slice none 0 0] := by rw [hwa]; exact snew _ _ _
  have hnew : Calls Tryd.prog 38 #[.int .i64 2000] wa fun e w' => Made wa 2000 e w' := new_any 2000 (by decide) (by decide) wa
  have HW := Lib.hid hwa.symm
  have HA := Lib.hid (⟨hza, hba, v4⟩ : _ ∧ _ ∧ _)
  have HK := Lib.hid hks
  have HU := Lib.hid hus
  have HT := Lib.hid hT
  have HN := Lib.hid hk
  have pe := ptr_eq26
  have mixed : Tryd.prog.follows .mixedOrders = true := by kernel_rfl
  have hlow := lowsOf_up ks
  have HLw := Lib.hid hlow
  obtain ⟨un, hun⟩ : ∃ n, n = us.length := ⟨_, rfl⟩
  have HUn := Lib.hid hun
  have hul2 : (un : Int) ≤ 9223372036854775807 := by omega
  rw [← hun]
  clear hza hba v4 hwa hks hus hT hk hlow hul hun
  go_enter Tryd.func12, Tryd.ntmps12
  go_wp2_with (first | rw [HW.out] | fail)
  refine hnew.mono ?_
  rintro e w1 ⟨b, c, r, rfl, hAt, hb1, q1, q2, q3⟩
  obtain ⟨hza, hba, v4⟩ := HA.out
  have hs1 := hb1.size
  obtain ⟨wA, hwA⟩ : ∃ W, W = (w1.alloc (.cells #[.string ⟨#[]⟩] 9)).alloc (.cells #[.pointer (some ⟨b, 0, none⟩), .slice (some ⟨w1.heap.size, 0, none⟩) 1 1, .slice none 0 0, .slice none 0 0] 29) := ⟨_, rfl⟩
  have hsA : wA.heap.size = w1.heap.size + 2 := by rw [hwA]; simp
  have hb1A : Below w1.heap.size w1 wA := by rw [hwA]; exact ((Below.refl _ _).alloc (Nat.le_refl _) _).alloc (by simp) _
  have hwA1 : Below w.heap.size w w1 := hba.trans (hb1.mono (by omega))
  have hE0 : HasE w b c r [] w1 (M.new 2000) :=
    ⟨M.new 2000, ⟨hAt, new_ok 2000 (by decide), hwA1, by omega, by omega, by omega⟩, (fun i x hx => by
      simp only [M.new, List.getElem?_replicate] at hx
      split at hx
      · cases hx; exact no_in
      · cases hx), Int.le_refl _, new_e 2000, fun g l hg => (by cases hg)⟩
  obtain ⟨k, hkk⟩ : ∃ k, k = ks.length := ⟨_, rfl⟩
  have HKn := Lib.hid hkk
  have HAp : Hid (∀ ty, ∃ v' w5, (Builtin.append_ #[22, 22] ty #[.slice (some ⟨wA.heap.size, 0, none⟩) 0 0, vk]).run Tryd.prog (wA.alloc (.cells #[] 9)) = .ok v' w5 ∧ ∃ gs cap, v' = .slice (some ⟨gs, 0, none⟩) k cap ∧ Hid (Below (w1.heap.size + 2) wA w5 ∧ w5.ownsRow (w1.heap.size + 2) 9 1 (.slice (some ⟨gs, 0, none⟩) k cap) k (strs ks))) := fun ty => by
    have hbB : Below wA.heap.size wA (wA.alloc (.cells #[] 9)) := (Below.refl _ _).alloc (Nat.le_refl _) _
    have ho := World.ownsRow_lit (e := 9) (size := 1) (base := wA.heap.size) wA #[] 0 (Nat.le_refl _) (by decide) rfl
    obtain ⟨i0, hi, hz0, hz1, hz2⟩ := info_parts info9
    have hka := (HK.out.later hwA1).later (hb1A.trans (hbB.mono (by omega)))
    rcases hka with ⟨e1, e2⟩ | ⟨ad, cap, e1, hkr⟩
    · rw [e1]
      have hr := run_append_owned_none (P := Tryd.prog) (wA.alloc (.cells #[] 9)) wA.heap.size 22 ty 9 i0 1 Tryd.underlying22 hi _ 0 _ ho
      refine ⟨_, _, hr, wA.heap.size, 0, by rw [hkk, e2]; rfl, ?_⟩
      rw [hkk, e2]
      exact ⟨by rw [← hsA]; exact hbB, by rw [← hsA]; exact ho⟩
    · rw [e1]
      obtain ⟨a', cap', w5, p1, p2, p3, p4, p5⟩ := own_app2 22 16 i0 _ Tryd.underlying22 hi hz0 hz1 hz2 rfl (by decide) ho hbB.size ad ks.length cap (strs ks) (by simp [strs]) (fun j u hj => by
        rcases hkr with e | ⟨g, o, e, hg, hr⟩
        · rw [e] at hj; simp [strs] at hj
        · rw [e, add_off]; exact hr j u hj) (by intro u hu; obtain ⟨x, -, rfl⟩ := List.mem_map.1 hu; rfl) (by have := HN.out; omega) (by decide) ty
      rw [Nat.zero_add] at p1 p2
      rw [hkk]
      rcases own_val p2 with ⟨e3, -⟩ | ⟨gs, cap3, e3, -, -, -, -⟩
      · have : a' = none := (Value.slice.inj e3).1
        have := p5 this
        cases this
      · cases e3
        refine ⟨_, w5, p1, gs, _, rfl, ?_, by rw [← hsA]; simpa using p2⟩
        rw [← hsA]
        exact hbB.trans ⟨p3.os, p3.tape, p3.output, p3.size, fun j hj => p3.block j (Nat.lt_of_lt_of_le hj hbB.size) fun e => by
          have e3 : j = wA.heap.size := Option.some.inj e
          omega⟩
  have HW2 := Lib.hid hwA.symm
  have HE0 := Lib.hid (⟨hE0, hwA1, hza, hba, v4, hs1, hb1, q1, q2, q3⟩ : _ ∧ _ ∧ _ ∧ _ ∧ _ ∧ _ ∧ _ ∧ _ ∧ _ ∧ _)
  have hk40 : (k : Int) ≤ 40 := by have := HN.out; omega
  have HsA := Lib.hid hsA
  clear hnew hAt hb1 q1 q2 q3 hza hba v4 hs1 hwA hsA hb1A hwA1 hE0 hkk HA
  go_wp2_with (first | rw [HW2.out] | (at_builtin; refine append_run2 rfl (.tmp 29) (.tmp 30) 22 rfl rfl rfl HAp.out ?_; rintro v' w5 ⟨gs, caps, rfl, HX5⟩; clear HAp) | fail)
  have hsort := sort_any ks w5 (w1.heap.size + 2) gs caps (by rw [← HKn.out]; exact HX5.out.2) (by have := HN.out; omega)
  rw [← HKn.out] at hsort
  refine hsort.mono ?_
  rintro e w6 hS6
  have he6 := hS6.1
  subst he6
  have HL0 : Hid (LD w1 b (w1.heap.size + 1) gs (ssOf ks) (((ssOf ks).take 0).foldl stepD [⟨#[]⟩]) (some ⟨w1.heap.size, 0, none⟩) 1 [] none 0 w6) := by
    show LD _ _ _ _ _ _ _ _ _ _ _ _
    rw [List.take_zero]
    exact ld_start (by rw [HW2.out]; exact HX5.out.1) hS6
  clear hsort hS6 HX5
  go_wp2_with fail
  go_loopw [10] (fun iv wr => ∃ i : Nat, iv = .int .i64 (i : Int) ∧ i ≤ k ∧ Hid (∃ a cap, LD w1 b (w1.heap.size + 1) gs (ssOf ks) (((ssOf ks).take i).foldl stepD [⟨#[]⟩]) a cap [] none 0 wr)) (fun iv _ => k - (intOf iv).toNat)
  case atStart => exact ⟨0, rfl, Nat.zero_le _, _, _, HL0.out⟩
  case round =>
    obtain ⟨i, rfl, hi, hX⟩ := hrel
    obtain ⟨a, cap, hLD⟩ := hX.out
    by_cases hlt : i < k
    · have hlt2 : (i : Int) < (k : Int) := by omega
      obtain ⟨x, hx⟩ : ∃ x, (ssOf ks)[i]? = some x := ⟨_, List.getElem?_eq_getElem (by rw [ssOf_length, ← HKn.out]; exact hlt)⟩
      have hstep : ((ssOf ks).take (i + 1)).foldl stepD [⟨#[]⟩] = stepD (((ssOf ks).take i).foldl stepD [⟨#[]⟩]) x := by
        rw [List.take_add_one, hx, Option.toList_some, List.foldl_append]; rfl
      have hLe : (((ssOf ks).take i).foldl stepD [⟨#[]⟩]).length ≤ i + 1 ∧ ((ssOf ks).take i).foldl stepD [⟨#[]⟩] ≠ [] := by
        obtain ⟨-, ⟨t, e⟩, h3⟩ := dd_up ((ssOf ks).take i) [⟨#[]⟩] (by simp) (by simp) ((ssOf_up ks).sublist (List.take_sublist _ _)) fun x _ => lt_empty x
        refine ⟨?_, by rw [e]; simp⟩
        rw [List.length_take] at h3
        simp only [List.length_cons, List.length_nil] at h3
        omega
      have hnext : ∀ L', stepD (((ssOf ks).take i).foldl stepD [⟨#[]⟩]) x = L' → ∀ W, (∃ a cap, LD w1 b (w1.heap.size + 1) gs (ssOf ks) L' a cap [] none 0 W) → Hid (∃ a cap, LD w1 b (w1.heap.size + 1) gs (ssOf ks) (((ssOf ks).take (i + 1)).foldl stepD [⟨#[]⟩]) a cap [] none 0 W) := fun L' e W h => by
        show ∃ a cap, LD _ _ _ _ _ _ _ _ _ _ _ _
        rw [hstep, e]; exact h
      have HNx := Lib.hid hnext
      clear hstep hnext
      generalize ((ssOf ks).take i).foldl stepD [⟨#[]⟩] = L at *
      obtain ⟨L0, y, rfl⟩ : ∃ L0 y, L = L0 ++ [y] := by
        rcases List.eq_nil_or_concat L with e0 | ⟨L0, y, e0⟩
        · exact absurd e0 hLe.2
        · exact ⟨L0, y, by rw [e0, List.concat_eq_append]⟩
      obtain ⟨q, hq⟩ : ∃ q, q = L0.length := ⟨_, rfl⟩
      have hql : (L0 ++ [y]).length = q + 1 := by simp [hq]
      have hq1 : q ≤ 40 := by have := hLe.1; have := HN.out; have := HKn.out; omega
      obtain ⟨ga, rfl⟩ : ∃ ga, a = some ⟨ga, 0, none⟩ := by
        rcases own_val hLD.r1 with ⟨e1, e2⟩ | ⟨g, cap', e1, -⟩
        · omega
        · cases e1; exact ⟨g, rfl⟩
      have c1 := hLD.var.cell (i := 1) rfl
      rw [hql] at c1
      have sga := own_svar hLD.r1
      have cga : wr.cell? ⟨ga, q, none⟩ = some (.string y) := sga.cell (by rw [hq]; simp [strs])
      have cgs : wr.cell? ⟨gs, i, none⟩ = some (.string x) := by
        have := hLD.srt i _ (strs_get hx)
        rwa [Nat.zero_add] at this
      have hq2 : (q : Int) ≤ 40 := by omega
      have HLD := Lib.hid (fun nq => hLD.later (below_drewN _ nq))
      have HQ := Lib.hid hql
      by_cases hxy : x = y
      · have HX2 := fun nq => HNx.out (L0 ++ [y]) (by rw [stepD, if_pos (by rw [getLastD_snoc]; exact hxy)]) (wr.drewN nq) ⟨_, _, hLD.later (below_drewN _ nq)⟩
        subst hxy
        clear hX hLD HLD sga hql hLe hx hq
        go_wp2_with fail
        go_quiet (fail)
        go_wp2_with fail
        go_roundw
        case rel => exact ⟨i + 1, by simp, by omega, HX2 _⟩
        case measure => simp [intOf]; omega
      · have hbne : (x.toList == y.toList) = false := by
          rcases tri x y with h | h | h
          · exact h.2.2
          · exfalso
            refine hxy ?_
            have := eq_of_beq h.2.2
            rwa [ByteArray.toList_eq, ByteArray.toList_eq, Array.toList_inj, ← ByteArray.ext_iff] at this
          · exact h.2.2
        have HL2 := Lib.hid (fun W h => HNx.out (L0 ++ [y] ++ [x]) (by rw [stepD, if_neg (by rw [getLastD_snoc]; exact hxy)]) W h)
        have HI := Lib.hid hlt
        have Hcs := Lib.hid (⟨c1, cgs⟩ : _ ∧ _)
        clear hX hLD sga hLe hx hq HNx
        go_wp2_with fail
        go_quiet (fail)
        go_wp2_with fail
        have hLD := HLD.out nq
        have Hcs := Lib.hid (⟨Hcs.out.1, Hcs.out.2⟩ : (wr.drewN nq).cell? ⟨w1.heap.size + 1, 1, none⟩ = some (.slice (some ⟨ga, 0, none⟩) (q + 1) cap) ∧ (wr.drewN nq).cell? ⟨gs, i, none⟩ = some (.string x))
        clear HLD
        have HLD := Lib.hid hLD
        clear hLD c1 cgs cga
        generalize wr.drewN nq = wd at *
        have HS : Hid ((∀ W, Below wd.heap.size wd W → (Instr.loadAt 22 (.pointer (some ⟨w1.heap.size + 1, 1, none⟩))).run Tryd.prog W = .ok (.slice (some ⟨ga, 0, none⟩) (q + 1) cap) W) ∧ i < k ∧ (∀ W, Below wd.heap.size wd W → (Instr.loadAt 9 (.pointer (some ⟨gs, 0 + i, none⟩))).run Tryd.prog W = .ok (.string x) W) ∧
            (∀ W, Below wd.heap.size wd W → ∀ g, W.cell? ⟨g, 0, none⟩ = some (.string x) → ∀ ty, ∃ v' w', (Builtin.append_ #[22, 22] ty #[.slice (some ⟨ga, 0, none⟩) (q + 1) cap, .slice (some ⟨g, 0, none⟩) 1 1]).run Tryd.prog W = .ok v' w' ∧ P7 w1 b gs (ssOf ks) (L0 ++ [y] ++ [x]) v' w') ∧
            (∀ v' W, P7 w1 b gs (ssOf ks) (L0 ++ [y] ++ [x]) v' W → ∃ w', (Instr.storeAt 22 (.pointer (some ⟨w1.heap.size + 1, 1, none⟩)) v').run Tryd.prog W = .ok () w' ∧ ∃ a cap, LD w1 b (w1.heap.size + 1) gs (ssOf ks) (L0 ++ [y] ++ [x]) a cap [] none 0 w')) := by
          have hL := HLD.out
          refine ⟨fun W hb => load_22 (by rw [hb.cell (p := ⟨w1.heap.size + 1, 1, none⟩) hL.var.lt]; exact Hcs.out.1), HI.out, fun W hb => load_9 (by rw [Nat.zero_add, hb.cell (p := ⟨gs, i, none⟩) hL.ngs.2.1]; exact Hcs.out.2), fun W hb g hc ty => ?_, fun v' W hp => ?_⟩
          · have := hL.low hb hc (by rw [HQ.out]; omega) ty
            rw [HQ.out] at this
            obtain ⟨v', W2, h1, a', cap', h2, h3, h4, h5⟩ := this
            exact ⟨v', W2, h1, a', cap', h2, ⟨_, h3⟩, h4, h5⟩
          · obtain ⟨a', cap', rfl, ⟨u, h3⟩, h4, h5⟩ := hp
            exact ⟨_, st_22 _ _ _ h3 h4, a', cap', h5⟩
        refine FreeV.region_puts (S := LA wd (.string x) (P7 w1 b gs (ssOf ks) (L0 ++ [y] ++ [x])) (fun W => ∃ a cap, LD w1 b (w1.heap.size + 1) gs (ssOf ks) (L0 ++ [y] ++ [x]) a cap [] none 0 W)) (effs := [6, 7, 9])
          (tab := [⟨1, fun _ => [.pointer (some ⟨w1.heap.size + 1, 1, none⟩)], fun _ => .slice (some ⟨ga, 0, none⟩) (q + 1) cap, .read⟩,
            ⟨4, fun _ => [.slice (some ⟨gs, 0, none⟩) k caps, .int .i64 (i : Int)], fun _ => .pointer (some ⟨gs, 0 + i, none⟩), .pure⟩,
            ⟨5, fun _ => [.pointer (some ⟨gs, 0 + i, none⟩)], fun _ => .string x, .read⟩,
            ⟨6, fun _ => [.string x], fun β => (β 6), .eff⟩,
            ⟨7, fun β => [.slice (some ⟨ga, 0, none⟩) (q + 1) cap, (β 6)], fun β => (β 7), .eff⟩,
            ⟨9, fun β => [.pointer (some ⟨w1.heap.size + 1, 1, none⟩), (β 7)], fun _ => undef, .put⟩])
          (vs := [([], fun _ => .pointer (some ⟨w1.heap.size + 1, 1, none⟩)), ([], fun _ => .slice (some ⟨ga, 0, none⟩) (q + 1) cap), ([], fun _ => .slice (some ⟨gs, 0, none⟩) k caps), ([], fun _ => .int .i64 (i : Int)), ([], fun _ => .pointer (some ⟨gs, 0 + i, none⟩)), ([], fun _ => .string x), ([6], fun l => l.headD undef), ([7], fun l => l.headD undef), ([], fun _ => .pointer (some ⟨w1.heap.size + 1, 1, none⟩)), ([], fun _ => undef)])
          (by kernel_rfl) ⟨by kernel_rfl, ⟨FreeV.d_load _ rfl rfl (fun β bs W hS hd => HS.out.1 W (hS.bel ((hd 1 7 rfl).2 (.inl (by kernel_rfl))))),
            FreeV.d_at _ rfl rfl (fun _ w => at_22 gs 0 k caps i HS.out.2.1 w),
            FreeV.d_load _ rfl rfl (fun β bs W hS hd => HS.out.2.2.1 W (hS.bel (hS.z1 ((hd 0 6 rfl).2 (.inl (by kernel_rfl)))))),
            FreeV.d_row1 _ rfl rfl 0 rfl (fun β bs W hS hd => la_row hS ((hd 0 6 rfl).2 (.inr rfl)) 22 9 (row22 W x)),
            FreeV.d_app _ rfl rfl 1 rfl (fun β bs ty W hS hd => la_app hS ((hd 0 6 rfl).1 (by kernel_rfl)) ((hd 1 7 rfl).2 (.inr rfl)) HS.out.2.2.2.1),
            FreeV.d_store _ rfl rfl 2 rfl (fun β bs W hS hd => la_store hS ((hd 1 7 rfl).1 (by kernel_rfl)) ((hd 2 9 rfl).2 (.inr rfl)) HS.out.2.2.2.2),
            trivial⟩,
            fun β => by kernel_rfl, fun β => by kernel_rfl, by kernel_rfl, fun β => by kernel_rfl, by kernel_rfl⟩ la_start (fun β => Free.from_ 53 [.pointer (some ⟨w1.heap.size + 1, 1, none⟩), .slice (some ⟨ga, 0, none⟩) (q + 1) cap, .slice (some ⟨gs, 0, none⟩) k caps, .int .i64 (i : Int), .pointer (some ⟨gs, 0 + i, none⟩), .string x, (β 6), (β 7), .pointer (some ⟨w1.heap.size + 1, 1, none⟩)]) (fun β => by kernel_rfl) ?_
        intro β w11 h11
        rw [Free.puts_from _ _ _ (Nat.le_of_ble_eq_true rfl)]
        simp only [List.take_succ_cons, List.take_zero, List.drop_succ_cons, List.drop_zero, List.cons_append, List.nil_append, List.length_cons, List.length_nil, Nat.reduceAdd]
        have HX2 := HL2.out _ (h11.four rfl)
        clear h11 HS HLD HL2 Hcs
        go_wp2_with fail
        go_roundw
        case rel => exact ⟨i + 1, by simp, by omega, HX2⟩
        case measure => simp [intOf]; omega
    · have hlt2 : ¬ (i : Int) < (k : Int) := by omega
      have hX2 : Hid (∃ a cap a2 cap2, LD w1 b (w1.heap.size + 1) gs (ssOf ks) (lowsOf ks) a cap (htsUp us 0) a2 cap2 wr) := by
        rw [List.take_of_length_le (by rw [ssOf_length, ← HKn.out]; omega)] at hLD
        exact ⟨a, cap, none, 0, hLD⟩
      obtain ⟨N, hN⟩ : ∃ N, N = (lowsOf ks).length := ⟨_, rfl⟩
      have hN1 : 1 ≤ N ∧ N ≤ 41 := by
        have h1 := HLw.out.2.2
        have h2 := (List.getElem?_eq_some_iff.1 HLw.out.2.1).1
        have := HN.out
        omega
      have HNN := Lib.hid hN
      have hN41 : (N : Int) ≤ 41 := by omega
      clear hLD hX HL0 hN
      go_wp2_with fail
      go_loopw [11, 12] (fun mv iv wr => ∃ i : Nat, iv = .int .i64 (i : Int) ∧ mv = .int .i64 (mostOf (htsUp us i)) ∧ i ≤ N ∧ Hid (∃ a cap a2 cap2, LD w1 b (w1.heap.size + 1) gs (ssOf ks) (lowsOf ks) a cap (htsUp us i) a2 cap2 wr)) (fun _ iv _ => N - (intOf iv).toNat)
      case atStart => exact ⟨0, rfl, rfl, Nat.zero_le _, hX2⟩
      case round =>
        obtain ⟨i, rfl, rfl, hi, hX⟩ := hrel
        obtain ⟨a, cap, a2', cap2', hLD⟩ := hX.out
        have hlen : (htsUp us i).length = i := by simp [htsUp]
        have c1 := hLD.var.cell (i := 1) rfl
        have c2 := hLD.var.cell (i := 2) rfl
        rw [← HNN.out] at c1
        rw [hlen] at c2
        by_cases hlt : i < N
        · have hlt2 : (i : Int) < (N : Int) := by omega
          have hi0 : (0 : Int) ≤ (i : Int) := by omega
          obtain ⟨h, hh⟩ : ∃ h, h = htAt us i := ⟨_, rfl⟩
          have hnext : htsUp us (i + 1) = htsUp us i ++ [h] := by rw [hh]; simp [htsUp, List.range_succ]
          have hmost : mostOf (htsUp us (i + 1)) = max (mostOf (htsUp us i)) h := by rw [hnext, mostOf, List.foldl_append]; rfl
          have hm := most_in (htsUp us i) 1 (by omega) (by omega) (htsUp_in us i)
          have hm1 : 1 ≤ mostOf (htsUp us i) := hm.1
          have hm8 : mostOf (htsUp us i) ≤ 8 := hm.2.1
          have HM := Lib.hid hmost
          have HAp : Hid (∀ ty, ∃ v' W2, (Builtin.append_ #[27, 27] ty #[.slice a2' i cap2', .slice (some ⟨wr.heap.size, 0, none⟩) 1 1]).run Tryd.prog (wr.alloc (.cells #[.int .i64 h] 3)) = .ok v' W2 ∧ ∃ a' cap', v' = .slice a' (i + 1) cap' ∧ W2.cell? ⟨w1.heap.size + 1, 2, none⟩ = some (.slice a2' i cap2') ∧ W2.frozen? ⟨w1.heap.size + 1, 2, none⟩ = false ∧ Hid (∃ a cap a2 cap2, LD w1 b (w1.heap.size + 1) gs (ssOf ks) (lowsOf ks) a cap (htsUp us (i + 1)) a2 cap2 (W2.setCell ⟨w1.heap.size + 1, 2, none⟩ (.slice a' (i + 1) cap')))) := fun ty => by
            have := hLD.high (W1 := wr.alloc (.cells #[.int .i64 h] 3)) ((Below.refl _ _).alloc (Nat.le_refl _) _) (g := wr.heap.size) (x := h) ((snew wr [.int .i64 h] 3).cell (i := 0) rfl) (by rw [hlen]; omega) ty
            rw [List.length_append, hlen] at this
            obtain ⟨v', W2, h1, a', cap', h2, h3, h4, h5⟩ := this
            exact ⟨v', W2, h1, a', cap', h2, h3, h4, by rw [hnext]; exact ⟨_, _, _, _, h5⟩⟩
          have hLu := hLD.bel
          clear hX hX2 hLD hlen hnext hmost hm
          generalize mostOf (htsUp us i) = mo at *
          by_cases hin : i < un
          · have hin2 : (i : Int) < (un : Int) := by omega
            obtain ⟨u, hu⟩ : ∃ u, us[i]? = some u := ⟨_, List.getElem?_eq_getElem (by rw [← HUn.out]; exact hin)⟩
            have hu255 := HU.out.le u (List.mem_of_getElem? hu)
            have hu2 : (u : Int) ≤ 255 := by omega
            have hu0 : (0 : Int) ≤ (u : Int) := by omega
            have hhv : h = 1 + (u : Int) % 8 := by
              rw [hh, htAt, if_pos (by rw [← HUn.out]; exact hin), List.getD_eq_getElem?_getD, hu]
              simp
            have hrow : ∃ g o, a2 = some ⟨g, o, none⟩ ∧ wr.cell? ⟨g, o + i, none⟩ = some (.int .u8 (u : Int)) := by
              rcases HU.out.row with e | ⟨g, o, e, hg, hr⟩
              · rw [e] at hu; simp at hu
              · obtain ⟨-, hb1, hz, -, -, hs1, hb2⟩ := HE0.out
                refine ⟨g, o, e, ?_⟩
                rw [hLu.cell (p := ⟨g, o + i, none⟩) (by show g < _; omega), hb1.cell (p := ⟨g, o + i, none⟩) hg]
                exact hr i _ (by simp [u8s, hu])
            obtain ⟨g, o, ea, cu⟩ := hrow
            subst ea
            subst hhv
            clear hh hu hLu
            go_wp2_with (first | (at_builtin; refine append_run2 rfl (.tmp 81) (.tmp 83) 27 rfl rfl rfl HAp.out ?_; rintro v' w5 ⟨a', cap', rfl, c2', f2', HX2⟩; clear HAp) | fail)
            go_roundw
            case rel => exact ⟨i + 1, by simp, by rw [HM.out], by omega, HX2⟩
            case measure => simp [intOf]; omega
          · have hin2 : ¬ (i : Int) < (un : Int) := by omega
            have hhv : h = 1 := by rw [hh, htAt, if_neg (by rw [← HUn.out]; exact hin)]
            subst hhv
            clear hh hLu
            go_wp2_with (first | (at_builtin; refine append_run2 rfl (.tmp 81) (.tmp 83) 27 rfl rfl rfl HAp.out ?_; rintro v' w5 ⟨a', cap', rfl, c2', f2', HX2⟩; clear HAp) | fail)
            go_roundw
            case rel => exact ⟨i + 1, by simp, by rw [HM.out], by omega, HX2⟩
            case measure => simp [intOf]; omega
        · have hlt2 : ¬ (i : Int) < (N : Int) := by omega
          have hik : N = i := by omega
          subst hik
          have hts := htsOf_in us N
          obtain ⟨mo, hmo⟩ : ∃ x, x = mostOf (htsUp us N) := ⟨_, rfl⟩
          have hset : (htsUp us N).set 0 mo = htsOf us N := by rw [hmo]; rfl
          obtain ⟨gl, gt, ra, ra2, W1, W2, W3, W4, e1, e2, e3, e4, hLX⟩ := ld_done hLD HE0.out.1 HNN.out.symm hlen hN1.1 (by omega) mo
          rw [hset] at hLX
          rw [← hmo]
          subst ra
          subst ra2
          have hmk : (Instr.makeSlice 27 (.int .i64 (N : Int)) (.int .i64 (N : Int))).run Tryd.prog W1 = .ok (.slice (some ⟨W1.heap.size, 0, none⟩) N N) W2 := by rw [e2]; exact made27 N (by omega) W1
          have hdo := do_any W4 b 40 #[.pointer (some ⟨w1.heap.size + 1, 0, none⟩), .pointer (some ⟨W1.heap.size + 1, 0, none⟩)] _ he40
            (lay1_any hLX.has HT.out (lowsOf ks) (htsOf us N) HNN.out hN1.1 (by omega) (by rw [hts.2.1]; exact HNN.out) hts.1 hLX.la hLX.ta hLX.sy hLX.so hLX.sh hLX.ly hLX.lo hLX.lh (by have := hLX.lt.1; omega) (by have := hLX.lt.1; omega) (by omega))
          have HS1 := Lib.hid e1.symm
          have HS3 := Lib.hid e3.symm
          have HS4 := Lib.hid e4.symm
          have HLX := Lib.hid hLX
          obtain ⟨u0, cT⟩ := hLX.ct
          have fT := hLX.ft
          have c2w := hLX.c2
          have c1w := hLX.c1
          have c3w := hLX.c3
          have f3w := hLX.f3
          have szw := hLX.sz
          clear hX hX2 hLD hlen c2 hts hmo hset e1 e2 e3 e4 hLX
          go_wp2_with (first | rw [HS1.out] | rw [HS3.out] | rw [HS4.out] | rw [szw] | fail)
          refine hdo.mono ?_
          rintro e w9 ⟨v9, rfl, rfl, hQ⟩
          obtain ⟨G1, m9, l, hbn, hhe, hgr, hsf, so9, sh9⟩ := hQ
          obtain ⟨hE0, hwA1, hza, hba, v4, hs1, hb1, q1, q2, q3⟩ := HE0.out
          have hL := HLX.out
          have hz4 : w.heap.size ∉ [b, c, r, W1.heap.size, W1.heap.size + 1] := by
            have := hL.lt
            simp only [List.mem_cons, List.not_mem_nil, or_false]; omega
          have hzy : w1.heap.size + 1 ∉ [b, c, r, W1.heap.size, W1.heap.size + 1] := by
            have := hL.lt
            have := hL.ly.ne
            simp only [List.mem_cons, List.not_mem_nil, or_false]; omega
          have v4a := (v4.later hb1).same hL.bel.size (hL.bel.block _ (by omega))
          have v49 := v4a.same hbn.size (hbn.block _ v4a.lt hz4)
          have sy9 := hL.sy.same hbn.size (hbn.block _ hL.sy.lt hzy)
          have hbw4 : Below w.heap.size w W4 := hwA1.trans (hL.bel.mono (by omega))
          have hbw9 : Below w.heap.size w w9 := hbw4.trans ⟨hbn.os, hbn.tape, hbn.output, hbn.size, fun j hj => hbn.block j (by have := hbw4.size; omega) (by
            have := hL.lt
            simp only [List.mem_cons, List.not_mem_nil, or_false]; omega)⟩
          have hfr := hhe.freeze (hL.lh.later hbn.size hgr) ⟨sh9.lt, fun j u hu => by have := sh9.at_ j u hu; rwa [Nat.zero_add] at this⟩
          have hll : l.length = N := by have := hsf.len; rw [← HNN.out] at this; omega
          have hY : LaidY w (lowsOf ks) (htsOf us N) w9 b c r ((W1.heap.size, ints (l.map Nod.h)) :: G1) m9 ⟨b, ⟨some ⟨gl, 0, none⟩, N, cap⟩, ⟨some ⟨gt, 0, none⟩, N, cap2'⟩, ⟨some ⟨W1.heap.size, 0, none⟩, N, N⟩⟩ l :=
            ⟨hfr, hsf, rfl, hL.la.more fun x hx => List.mem_cons_of_mem _ (hgr.1 x hx), hL.ta.more fun x hx => List.mem_cons_of_mem _ (hgr.1 x hx), ⟨by rw [ints_length, List.length_map, hll], Nat.le_refl _, by rw [ints_length, List.length_map, hll]; omega, .inr ⟨W1.heap.size, 0, _, rfl, List.mem_cons_self, fun i y hy => by rw [Nat.zero_add]; exact hy⟩⟩⟩
          have HS : Hid (∀ W, Below w9.heap.size w9 W → (Instr.loadAt 29 (.pointer (some ⟨w1.heap.size + 1, 0, none⟩))).run Tryd.prog W = .ok (.agg #[.pointer (some ⟨b, 0, none⟩), .slice (some ⟨gl, 0, none⟩) N cap, .slice (some ⟨gt, 0, none⟩) N cap2', .slice (some ⟨W1.heap.size, 0, none⟩) N N]) W ∧ (Instr.loadAt 4 (.pointer (some ⟨W1.heap.size + 1, 0, none⟩))).run Tryd.prog W = .ok (.bool true) W ∧
              (Instr.storeAt 29 (.pointer (some ⟨w.heap.size, 0, none⟩)) (.agg #[.pointer (some ⟨b, 0, none⟩), .slice (some ⟨gl, 0, none⟩) N cap, .slice (some ⟨gt, 0, none⟩) N cap2', .slice (some ⟨W1.heap.size, 0, none⟩) N N])).run Tryd.prog W = .ok () (sput W w.heap.size (yrow b gl 0 cap gt 0 cap2' W1.heap.size N)) ∧ FinL w ks us N (.agg #[.pointer (some ⟨b, 0, none⟩), .slice (some ⟨gl, 0, none⟩) N cap, .slice (some ⟨gt, 0, none⟩) N cap2', .slice (some ⟨W1.heap.size, 0, none⟩) N N]) (sput W w.heap.size (yrow b gl 0 cap gt 0 cap2' W1.heap.size N)) ∧ (Instr.loadAt 4 (.pointer (some ⟨W1.heap.size + 1, 0, none⟩))).run Tryd.prog (sput W w.heap.size (yrow b gl 0 cap gt 0 cap2' W1.heap.size N)) = .ok (.bool true) (sput W w.heap.size (yrow b gl 0 cap gt 0 cap2' W1.heap.size N))) := fun W hb => by
            have hs := v49.later hb
            have bb : But w.heap.size W (sput W w.heap.size (yrow b gl 0 cap gt 0 cap2' W1.heap.size N)) := But.sput _ _ _
            refine ⟨(sy9.later hb).load sh29, load_4 ((so9.later hb).cell (i := 0) rfl), hs.store (row' := yrow b gl 0 cap gt 0 cap2' W1.heap.size N) rfl sh29 (Yr.row_one ⟨b, ⟨some ⟨gl, 0, none⟩, N, cap⟩, ⟨some ⟨gt, 0, none⟩, N, cap2'⟩, ⟨some ⟨W1.heap.size, 0, none⟩, N, N⟩⟩), ?_, load_4 (((so9.later hb).same bb.size (bb.block _ (so9.later hb).lt (by have := hL.lt; omega))).cell (i := 0) rfl)⟩
            refine ⟨⟨b, c, r, (W1.heap.size, ints (l.map Nod.h)) :: G1, m9, ⟨b, ⟨some ⟨gl, 0, none⟩, N, cap⟩, ⟨some ⟨gt, 0, none⟩, N, cap2'⟩, ⟨some ⟨W1.heap.size, 0, none⟩, N, N⟩⟩, l, rfl, ?_⟩, ?_, (hs.put (row' := yrow b gl 0 cap gt 0 cap2' W1.heap.size N) rfl).loadVar sh29⟩
            · have h2 := hY.has.later hb
              refine ⟨h2.aside bb ⟨by omega, by omega, by omega, Nat.le_refl _, fun x hx e => ?_⟩, hY.suf, hY.yb, hY.la, hY.ta, hY.ha⟩
              rcases List.mem_cons.1 hx with e3 | e3
              · subst e3
                have := hL.lt
                simp only at e
                omega
              · rcases hgr.2 x e3 with e4 | e4
                · simp only [List.mem_cons, List.not_mem_nil, or_false] at e4
                  rcases e4 with e4 | e4
                  · have := hL.ge; subst e4; simp only at e; omega
                  · have := hL.ge; subst e4; simp only at e; omega
                · have := hbw4.size
                  have := v4a.lt
                  omega
            · exact (hbw9.trans (hb.mono hbw9.size)).trans (bb.belowAt (Nat.le_refl _) (Nat.le_trans hbw9.size hb.size))
          clear hdo hbn hhe hgr hsf so9 sh9 hE0 hwA1 hza hba v4 hs1 hb1 q1 q2 q3 hL hz4 hzy v4a v49 sy9 hbw4 hbw9 hfr hll hY cT fT c2w c1w c3w f3w hmk c1
          go_wp2_with fail
          refine FreeV.region_puts (S := LSR w9 (fun W => (Instr.loadAt 4 (.pointer (some ⟨W1.heap.size + 1, 0, none⟩))).run Tryd.prog W = .ok (.bool true) W) (FinL w ks us N (.agg #[.pointer (some ⟨b, 0, none⟩), .slice (some ⟨gl, 0, none⟩) N cap, .slice (some ⟨gt, 0, none⟩) N cap2', .slice (some ⟨W1.heap.size, 0, none⟩) N N]))) (effs := [2])
            (tab := [⟨0, fun _ => [.pointer (some ⟨w1.heap.size + 1, 0, none⟩)], fun _ => .agg #[.pointer (some ⟨b, 0, none⟩), .slice (some ⟨gl, 0, none⟩) N cap, .slice (some ⟨gt, 0, none⟩) N cap2', .slice (some ⟨W1.heap.size, 0, none⟩) N N], .read⟩,
              ⟨1, fun _ => [.pointer (some ⟨W1.heap.size + 1, 0, none⟩)], fun _ => .bool true, .read⟩,
              ⟨2, fun _ => [.pointer (some ⟨w.heap.size, 0, none⟩), .agg #[.pointer (some ⟨b, 0, none⟩), .slice (some ⟨gl, 0, none⟩) N cap, .slice (some ⟨gt, 0, none⟩) N cap2', .slice (some ⟨W1.heap.size, 0, none⟩) N N]], fun _ => undef, .put⟩])
            (vs := [([], fun _ => .agg #[.pointer (some ⟨b, 0, none⟩), .slice (some ⟨gl, 0, none⟩) N cap, .slice (some ⟨gt, 0, none⟩) N cap2', .slice (some ⟨W1.heap.size, 0, none⟩) N N]), ([], fun _ => .bool true), ([], fun _ => undef), ([], fun _ => .bool true)])
            (by kernel_rfl) ⟨by kernel_rfl, ⟨FreeV.d_load _ rfl rfl (fun β bs W hS hd => (HS.out W (hS.one ((hd 0 2 rfl).2 (.inl (by kernel_rfl))))).1),
              FreeV.d_load _ rfl rfl (fun β bs W hS hd => hS.rd),
              FreeV.d_store _ rfl rfl 0 rfl (fun β bs W hS hd => ⟨_, (HS.out W (hS.one ((hd 0 2 rfl).2 (.inr rfl)))).2.2.1, fun e => (by rw [set_at ((hd 0 2 rfl).2 (.inr rfl))] at e; cases e), fun _ => (HS.out W (hS.one ((hd 0 2 rfl).2 (.inr rfl)))).2.2.2.1, (HS.out W (hS.one ((hd 0 2 rfl).2 (.inr rfl)))).2.2.2.2⟩),
              trivial⟩,
              fun β => by kernel_rfl, fun β => by kernel_rfl, by kernel_rfl, fun β => by kernel_rfl, by kernel_rfl⟩ (lr_start (HS.out _ (Below.refl _ _).drew).2.1) (fun β => Free.from_ 101 [.agg #[.pointer (some ⟨b, 0, none⟩), .slice (some ⟨gl, 0, none⟩) N cap, .slice (some ⟨gt, 0, none⟩) N cap2', .slice (some ⟨W1.heap.size, 0, none⟩) N N], .bool true] ++ [(5, .bool true)]) (fun β => by kernel_rfl) ?_
          intro β w25 h25
          rw [FreeX.puts_append, Free.puts_from _ _ _ (Nat.le_of_ble_eq_true rfl)]
          simp only [List.take_succ_cons, List.take_zero, List.drop_succ_cons, List.drop_zero, List.cons_append, List.nil_append, List.length_cons, List.length_nil, Nat.reduceAdd]
          unfold Free.puts
          simp only [List.foldl_cons, List.foldl_nil]
          have HF := Lib.hid (h25.two rfl)
          clear h25 HS
          simp only [Act.put, List.setIfInBounds_toArray, List.set_cons_succ, List.set_cons_zero]
          go_wp2_with fail
          exact bodyPost_ret (res_ct (.bool true) Tryd.results12 rfl rfl HF.out.2.2) rfl (HF.out.fin HNN.out)
end Go.Proofs.YtibimnibmengpaaDoor
