/- What symMergeCmpFunc leaves of two sorted parts that stand side by side, the second one of one entry. Condition: the row has at most 2^40 entries. -/
import Derived.Test.YthglldnhffkefaaSWalkF
namespace Go.Proofs.Ythglldnhffkefaa
open Go.RowKit Go.Op Go.Sort
set_option maxRecDepth 100000

set_option maxHeartbeats 1000000 in
theorem sym_right (w0 : World) (g cap n a m : Nat) (A x B : List En) (e : En) (w : World) (R : Sow w0 g n) (hn : A.length + (x.length + (1 + B.length)) = n) (hsz : n ≤ 1099511627776) (ha : A.length = a) (hm : a + x.length = m) (hx : 1 < x.length) (hu : Up x)
    (h : Srt w0 g (A ++ (x ++ (e :: B))) w) :
    Calls Try.prog 39 #[.slice (some ⟨g, 0, none⟩) n cap, .int .i64 (a : Int), .int .i64 (m : Int), .int .i64 ((m + 1 : Nat) : Int), .func (.func 27) #[] #[]] w fun ed w' => ed = .returned (.tuple #[]) ∧ Srt w0 g (A ++ (sortL (x ++ [e]) ++ B)) w' := by
  have H0 := Lib.hid h
  have HR := Lib.hid R
  have HLen : Hid ((A ++ (x ++ (e :: B))).length = n) := Lib.hid (by simp; omega)
  have HA := Lib.hid ha
  have HM := Lib.hid hm
  have HU := Lib.hid hu
  obtain ⟨kx, hkx⟩ : ∃ kx, kx = x.length := ⟨_, rfl⟩
  have f1 : (m : Int) - (a : Int) = (kx : Int) := by omega
  have f2 : ((kx : Int) == 1) = false := by simp; omega
  have f3 : a + kx = m := by omega
  have f4 : 1 < kx := by omega
  have HK := Lib.hid hkx
  have f5 : m + 1 + B.length = n := by omega
  clear h R hu hkx hn hm hx
  go_enter Try.func39, Try.ntmps39
  go_wp2
  clear f1 f2
  go_loopw [14, 15] (fun iv jv wr => ∃ (i j : Nat), iv = .int .i64 (i : Int) ∧ jv = .int .i64 (j : Int) ∧ a ≤ i ∧ i ≤ j ∧ j ≤ m ∧ Hid (∀ t z, x[t]? = some z → a + t < i → lt e.key z.key = false) ∧ Hid (∀ t z, x[t]? = some z → j ≤ a + t → lt e.key z.key = true) ∧ Hid (Srt w0 g (A ++ (x ++ (e :: B))) wr)) (fun iv jv _ => (intOf jv).toNat - (intOf iv).toNat)
  case atStart =>
    exact ⟨a, m, rfl, rfl, by omega, by omega, by omega, Lib.hid (by intro t z _ h; omega), Lib.hid (by intro t z h h2; have := (List.getElem?_eq_some_iff.1 h).1; have := HK.out; omega), H0⟩
  case round =>
    obtain ⟨i, j, rfl, rfl, hi1, hij, hjb, H1, H2, HS⟩ := hrel
    clear H0
    by_cases hlt : i < j
    · have i0 : (i : Int) < (j : Int) := by omega
      obtain ⟨q, hq⟩ : ∃ q, q = (i + j) / 2 := ⟨_, rfl⟩
      have eq : ((i : Int) + (j : Int)) / 2 = (q : Int) := by omega
      have q1 : i ≤ q := by omega
      have q2 : q < j := by omega
      clear hq
      have hql : q - a < x.length := by have := HK.out; omega
      obtain ⟨z, hz⟩ : ∃ z, x[q - a]? = some z := ⟨_, List.getElem?_eq_getElem hql⟩
      have HZ := Lib.hid hz
      have HAt : Hid ((A ++ (x ++ (e :: B)))[q]? = some z ∧ (A ++ (x ++ (e :: B)))[m]? = some e) := Lib.hid ⟨by
        have := get_part (A := A) (B := e :: B) hz
        rw [show A.length + (q - a) = q by omega] at this
        exact this, by
        have := get_mid (A ++ x) B e
        rw [show (A ++ x).length = m by simp; have := HM.out; omega] at this
        simpa using this⟩
      clear hz hql
      have eqn : q < n := by omega
      cases hl : lt e.key z.key with
      | false =>
        have hlt2 : decide (cmpE e z < 0) = false := by rw [cmpE_lt]; exact hl
        go_wp2_with fail
        refine FreeS.region_puts (S := fun _ W => Srt w0 g (A ++ (x ++ (e :: B))) W) (sts := [])
          (tab := [(3, [.slice (some ⟨g, 0, none⟩) n cap, .int .i64 (m : Int)], .pointer (some ⟨g, m * 3, none⟩), .pure),
            (4, [.pointer (some ⟨g, m * 3, none⟩)], (e).v, .read),
            (7, [.slice (some ⟨g, 0, none⟩) n cap, .int .i64 (q : Int)], .pointer (some ⟨g, q * 3, none⟩), .pure),
            (8, [.pointer (some ⟨g, q * 3, none⟩)], (z).v, .read),
            (9, [.func (.func 27) #[] #[], (e).v, (z).v], .int .i64 (cmpE e z), .call 27 [(e).v, (z).v]),
            (10, [.int .i64 (cmpE e z), .int .i64 0], .bool false, .pure)])
          (by kernel_rfl) ⟨by kernel_rfl, ⟨FreeS.d_at _ rfl rfl (fun w => at_25 _ _ _ _ (by omega) w),
            FreeS.d_load _ rfl rfl (fun w h => load_37 (h.at HR.out HLen.out HAt.out.2).1),
            FreeS.d_at _ rfl rfl (fun w => at_25 _ _ _ _ (by omega) w),
            FreeS.d_load _ rfl rfl (fun w h => load_37 (h.at HR.out HLen.out HAt.out.1).1),
            FreeS.d_call2 _ rfl rfl enter_27 (fun w h => closure_srt e z h),
            FreeS.d_bin _ rfl rfl (fun xo yo w => cmp_lss3 xo yo w hlt2),
            trivial⟩,
            by kernel_rfl, by kernel_rfl, by kernel_rfl⟩ HS.out.drew (Free.from_ 92 [.func (.func 27) #[] #[], .slice (some ⟨g, 0, none⟩) n cap, .int .i64 (m : Int), .pointer (some ⟨g, m * 3, none⟩), (e).v, .slice (some ⟨g, 0, none⟩) n cap, .int .i64 (q : Int), .pointer (some ⟨g, q * 3, none⟩), (z).v, .int .i64 (cmpE e z), .bool false, .bool true]) (by kernel_rfl) ?_
        intro w4 h4
        rw [Free.puts_from _ _ _ (Nat.le_of_ble_eq_true rfl)]
        simp only [List.take_succ_cons, List.take_zero, List.drop_succ_cons, List.drop_zero, List.cons_append, List.nil_append, List.length_cons, List.length_nil, Nat.reduceAdd]
        have HF := Lib.hid h4
        have H1n : Hid (∀ t z, x[t]? = some z → a + t < q + 1 → lt e.key z.key = false) := Lib.hid (fun t z' h h2 => le_trans (up_get HU.out h HZ.out (by omega)) hl)
        clear h4 hlt2
        go_wp2
        go_roundw
        case rel => exact ⟨q + 1, j, by go_num, rfl, by omega, by omega, by omega, H1n, H2, HF⟩
        case measure => simp [intOf]; omega
      | true =>
        have hlt2 : decide (cmpE e z < 0) = true := by rw [cmpE_lt]; exact hl
        go_wp2_with fail
        refine FreeS.region_puts (S := fun _ W => Srt w0 g (A ++ (x ++ (e :: B))) W) (sts := [])
          (tab := [(3, [.slice (some ⟨g, 0, none⟩) n cap, .int .i64 (m : Int)], .pointer (some ⟨g, m * 3, none⟩), .pure),
            (4, [.pointer (some ⟨g, m * 3, none⟩)], (e).v, .read),
            (7, [.slice (some ⟨g, 0, none⟩) n cap, .int .i64 (q : Int)], .pointer (some ⟨g, q * 3, none⟩), .pure),
            (8, [.pointer (some ⟨g, q * 3, none⟩)], (z).v, .read),
            (9, [.func (.func 27) #[] #[], (e).v, (z).v], .int .i64 (cmpE e z), .call 27 [(e).v, (z).v]),
            (10, [.int .i64 (cmpE e z), .int .i64 0], .bool true, .pure)])
          (by kernel_rfl) ⟨by kernel_rfl, ⟨FreeS.d_at _ rfl rfl (fun w => at_25 _ _ _ _ (by omega) w),
            FreeS.d_load _ rfl rfl (fun w h => load_37 (h.at HR.out HLen.out HAt.out.2).1),
            FreeS.d_at _ rfl rfl (fun w => at_25 _ _ _ _ (by omega) w),
            FreeS.d_load _ rfl rfl (fun w h => load_37 (h.at HR.out HLen.out HAt.out.1).1),
            FreeS.d_call2 _ rfl rfl enter_27 (fun w h => closure_srt e z h),
            FreeS.d_bin _ rfl rfl (fun xo yo w => cmp_lss3 xo yo w hlt2),
            trivial⟩,
            by kernel_rfl, by kernel_rfl, by kernel_rfl⟩ HS.out.drew (Free.from_ 92 [.func (.func 27) #[] #[], .slice (some ⟨g, 0, none⟩) n cap, .int .i64 (m : Int), .pointer (some ⟨g, m * 3, none⟩), (e).v, .slice (some ⟨g, 0, none⟩) n cap, .int .i64 (q : Int), .pointer (some ⟨g, q * 3, none⟩), (z).v, .int .i64 (cmpE e z), .bool true, .bool false]) (by kernel_rfl) ?_
        intro w4 h4
        rw [Free.puts_from _ _ _ (Nat.le_of_ble_eq_true rfl)]
        simp only [List.take_succ_cons, List.take_zero, List.drop_succ_cons, List.drop_zero, List.cons_append, List.nil_append, List.length_cons, List.length_nil, Nat.reduceAdd]
        have HF := Lib.hid h4
        have H2n : Hid (∀ t z, x[t]? = some z → q ≤ a + t → lt e.key z.key = true) := Lib.hid (fun t z' h h2 => lt_le hl (up_get HU.out HZ.out h (by omega)))
        clear h4 hlt2
        go_wp2
        go_roundw
        case rel => exact ⟨i, q, rfl, rfl, by omega, by omega, by omega, H1, H2n, HF⟩
        case measure => simp [intOf]; omega
    · have i0 : ¬ (i : Int) < (j : Int) := by omega
      obtain rfl : i = j := by omega
      obtain ⟨x1, hx1⟩ : ∃ x1, x1 = x.take (i - a) := ⟨_, rfl⟩
      obtain ⟨x2, hx2⟩ : ∃ x2, x2 = x.drop (i - a) := ⟨_, rfl⟩
      have HX : Hid (x = x1 ++ x2) := Lib.hid (by rw [hx1, hx2, List.take_append_drop])
      have HG1 : Hid (∀ z ∈ x1, lt e.key z.key = false) := Lib.hid (fun z hz => by
        rw [hx1] at hz
        obtain ⟨t, ht, h⟩ := mem_take_get hz
        exact H1.out t z h (by omega))
      have HG2 : Hid (∀ z ∈ x2, lt e.key z.key = true) := Lib.hid (fun z hz => by
        rw [hx2] at hz
        obtain ⟨t, ht, h⟩ := mem_drop_get hz
        exact H2.out t z h (by omega))
      have hl1 : a + x1.length = i := by have := HK.out; rw [hx1, List.length_take]; omega
      have hl2 : i + x2.length = m := by have := HK.out; rw [hx2, List.length_drop]; omega
      have HS2 : Hid (Srt w0 g (A ++ (x1 ++ (x2 ++ (e :: ([] ++ B))))) wr) := Lib.hid (by have := HS.out; rw [HX.out] at this; simpa using this)
      have HLen2 : Hid ((A ++ (x1 ++ (x2 ++ (e :: B)))).length = n) := Lib.hid (by have := HLen.out; rw [HX.out] at this; simpa using this)
      clear hx1 hx2 H1 H2 HS i0
      have i0 : ¬ (i : Int) < (i : Int) := by omega
      obtain ⟨wo, hwo⟩ : ∃ wo, wo = wr := ⟨_, rfl⟩
      subst hwo
      go_wp2
      go_loopw [17] (fun kv wr => ∃ (k : Nat) (s1 s2 : List En), kv = .int .i64 (k : Int) ∧ i + s1.length = k ∧ k ≤ m ∧ Hid (s1 ++ s2 = x2) ∧ Hid (Srt w0 g (A ++ (x1 ++ (s1 ++ (e :: (s2 ++ B))))) wr)) (fun kv _ => (intOf kv).toNat)
      case atStart => exact ⟨m, x2, [], rfl, hl2, by omega, Lib.hid (by simp), HS2⟩
      case round =>
        obtain ⟨k, s1, s2, rfl, hk, hkm, H12, HS3⟩ := hrel
        clear HS2
        rcases List.eq_nil_or_concat s1 with rfl | ⟨t, z, rfl⟩
        · simp only [List.length_nil, Nat.add_zero] at hk
          subst hk
          have HE : Hid (Srt w0 g (A ++ (sortL (x ++ [e]) ++ B)) wr) := Lib.hid (by
            rw [HX.out, sort_right (by rw [← HX.out]; exact HU.out) HG1.out HG2.out, ← H12.out]
            simpa using HS3.out)
          go_wp2
          exact bodyPost_ret (results_none rfl _ _ _) rfl ⟨rfl, HE.out⟩
        · rw [List.concat_eq_append] at *
          rw [List.length_append, List.length_cons, List.length_nil] at hk
          have i2 : (i : Int) < (k : Int) := by omega
          obtain ⟨k1, hk1⟩ : ∃ k1, k = k1 + 1 := ⟨k - 1, by omega⟩
          have e1 : (k : Int) - 1 = (k1 : Int) := by omega
          have hk2 : k1 < k := by omega
          have hk3 : k < n := by omega
          have HP : Hid ((A ++ (x1 ++ t)).length = k1 ∧ (A ++ (x1 ++ t)).length + 1 + ([] : List En).length = k ∧ k = k1 + 1 ∧ i + t.length = k1) := Lib.hid (by simp; omega)
          have HS4 : Hid (Srt w0 g ((A ++ (x1 ++ t)) ++ z :: ([] ++ e :: (s2 ++ B))) wr) := Lib.hid (by have := HS3.out; simpa using this)
          have hlen : ((A ++ (x1 ++ t)) ++ z :: ([] ++ e :: (s2 ++ B))).length = n := by have := HLen2.out; have h3 := congrArg List.length H12.out; simp at this h3 ⊢; omega
          have X1 := HS4.out.drew.at HR.out hlen (i := k1) (x := z) (by rw [← HP.out.1]; exact get_mid _ _ _)
          have X2 := HS4.out.drew.at HR.out hlen (i := k) (x := e) (by rw [← HP.out.2.1]; exact get_far _ _ _ _ _)
          have HF : Hid (Srt w0 g (A ++ (x1 ++ (t ++ (e :: ((z :: s2) ++ B))))) (put3 (put3 wr.drew g k z) g k1 e)) := Lib.hid (by
            have h6 := (HS4.out.drew.swap HR.out).2
            rw [HP.out.2.1, HP.out.1] at h6
            simpa using h6)
          have HU2 : Hid (t ++ (z :: s2) = x2) := Lib.hid (by simpa using H12.out)
          clear HS3 HS4 H12 hlen hk1 hk
          go_wp2_with fail
          refine FreeS.region_puts (S := three wr.drew (put3 wr.drew g k z) (put3 (put3 wr.drew g k z) g k1 e)) (sts := [15, 17])
            (tab := [(4, [.int .i64 (k : Int), .int .i64 1], .int .i64 (k1 : Int), .pure),
              (7, [.int .i64 (k : Int), .int .i64 1], .int .i64 (k1 : Int), .pure),
              (8, [.slice (some ⟨g, 0, none⟩) n cap, .int .i64 (k1 : Int)], .pointer (some ⟨g, k1 * 3, none⟩), .pure),
              (9, [.pointer (some ⟨g, k1 * 3, none⟩)], (z).v, .read),
              (12, [.slice (some ⟨g, 0, none⟩) n cap, .int .i64 (k : Int)], .pointer (some ⟨g, k * 3, none⟩), .pure),
              (13, [.pointer (some ⟨g, k * 3, none⟩)], (e).v, .read),
              (14, [.slice (some ⟨g, 0, none⟩) n cap, .int .i64 (k : Int)], .pointer (some ⟨g, k * 3, none⟩), .pure),
              (15, [.pointer (some ⟨g, k * 3, none⟩), (z).v], undef, .put 0),
              (16, [.slice (some ⟨g, 0, none⟩) n cap, .int .i64 (k1 : Int)], .pointer (some ⟨g, k1 * 3, none⟩), .pure),
              (17, [.pointer (some ⟨g, k1 * 3, none⟩), (e).v], undef, .put 1)])
            (by kernel_rfl) ⟨by kernel_rfl, ⟨FreeS.d_bin _ rfl rfl (fun xo yo w => cmp_sub3 xo yo w e1 (by omega) (by omega)),
              FreeS.d_bin _ rfl rfl (fun xo yo w => cmp_sub3 xo yo w e1 (by omega) (by omega)),
              FreeS.d_at _ rfl rfl (fun w => at_25 _ _ _ _ (by omega) w),
              FreeS.d_load _ rfl rfl (fun w h => (by rw [h]; exact load_37 X1.1)),
              FreeS.d_at _ rfl rfl (fun w => at_25 _ _ _ _ (by omega) w),
              FreeS.d_load _ rfl rfl (fun w h => (by rw [h]; exact load_37 X2.1)),
              FreeS.d_at _ rfl rfl (fun w => at_25 _ _ _ _ (by omega) w),
              FreeS.d_store _ rfl rfl (fun w h => (by rw [h]; exact ⟨_, store_37 z X2, rfl⟩)),
              FreeS.d_at _ rfl rfl (fun w => at_25 _ _ _ _ (by omega) w),
              FreeS.d_store _ rfl rfl (fun w h => (by rw [h]; exact ⟨_, store_37 e (at_put3 X1 (by omega)), rfl⟩)),
              trivial⟩,
              by kernel_rfl, by kernel_rfl, by kernel_rfl⟩ rfl (Free.from_ 113 [.slice (some ⟨g, 0, none⟩) n cap, .int .i64 (k : Int), .slice (some ⟨g, 0, none⟩) n cap, .int .i64 (k : Int), .int .i64 (k1 : Int), .slice (some ⟨g, 0, none⟩) n cap, .int .i64 (k : Int), .int .i64 (k1 : Int), .pointer (some ⟨g, k1 * 3, none⟩), (z).v, .slice (some ⟨g, 0, none⟩) n cap, .int .i64 (k : Int), .pointer (some ⟨g, k * 3, none⟩), (e).v, .pointer (some ⟨g, k * 3, none⟩), .pointer (some ⟨g, k1 * 3, none⟩)]) (by kernel_rfl) ?_
          intro w5 h5
          rw [Free.puts_from _ _ _ (Nat.le_of_ble_eq_true rfl)]
          simp only [List.take_succ_cons, List.take_zero, List.drop_succ_cons, List.drop_zero, List.cons_append, List.nil_append, List.length_cons, List.length_nil, Nat.reduceAdd]
          subst h5
          clear X1 X2
          generalize put3 (put3 wr.drew g k z) g k1 e = w6 at HF ⊢
          go_wp2
          go_roundw
          case rel => exact ⟨k1, t, z :: s2, rfl, HP.out.2.2.2, by omega, HU2, HF⟩
          case measure => simp [intOf]; omega
end Go.Proofs.Ythglldnhffkefaa
