/- What symMergeCmpFunc leaves of two sorted parts that stand side by side, the first one of one entry. Condition: the row has at most 2^40 entries. -/
import Derived.Test.YthglldnhffkefaaSWalkE
namespace Go.Proofs.Ythglldnhffkefaa
open Go.RowKit Go.Op Go.Sort
set_option maxRecDepth 100000

theorem up_get {y : List En} (h : Up y) {t u : Nat} {z v : En} (h1 : y[t]? = some z) (h2 : y[u]? = some v) (htu : t ≤ u) : lt v.key z.key = false := by
  obtain ⟨l1, rfl⟩ := List.getElem?_eq_some_iff.1 h1
  obtain ⟨l2, rfl⟩ := List.getElem?_eq_some_iff.1 h2
  by_cases e : t = u
  · subst e; exact lt_irr _
  · exact List.pairwise_iff_getElem.1 h t u l1 l2 (by omega)
theorem get_part {A x B : List En} {t : Nat} {z : En} (h : x[t]? = some z) : (A ++ (x ++ B))[A.length + t]? = some z := by
  obtain ⟨l1, _⟩ := List.getElem?_eq_some_iff.1 h
  rw [List.getElem?_append_right (by omega), Nat.add_sub_cancel_left, List.getElem?_append_left l1, h]
theorem mem_take_get {y : List En} {k : Nat} {z : En} (h : z ∈ y.take k) : ∃ t, t < k ∧ y[t]? = some z := by
  obtain ⟨t, ht, rfl⟩ := List.mem_iff_getElem.1 h
  rw [List.length_take] at ht
  exact ⟨t, by omega, by rw [List.getElem_take]; exact List.getElem?_eq_getElem (by omega)⟩
theorem mem_drop_get {y : List En} {k : Nat} {z : En} (h : z ∈ y.drop k) : ∃ t, k ≤ t ∧ y[t]? = some z := by
  obtain ⟨t, ht, rfl⟩ := List.mem_iff_getElem.1 h
  rw [List.length_drop] at ht
  exact ⟨k + t, by omega, by rw [List.getElem_drop]; exact List.getElem?_eq_getElem (by omega)⟩
theorem sort_left {y1 y2 : List En} {e : En} (hu : Up (y1 ++ y2)) (h1 : ∀ z ∈ y1, lt z.key e.key = true) (h2 : ∀ z ∈ y2, lt z.key e.key = false) : sortL (e :: (y1 ++ y2)) = y1 ++ e :: y2 := by
  have h := merge_parts (x1 := []) (x2 := [e]) (by simp [Up]) hu (by simpa using h1) (by simp)
  obtain ⟨u1, u2, _⟩ := up_append.1 hu
  have h3 : Up ([e] ++ y2) := up_append.2 ⟨by simp [Up], u2, by simpa using h2⟩
  rw [sort_up h3, List.nil_append y1, sort_up u1] at h
  simpa using h
theorem sort_right {x1 x2 : List En} {e : En} (hu : Up (x1 ++ x2)) (h1 : ∀ z ∈ x1, lt e.key z.key = false) (h2 : ∀ z ∈ x2, lt e.key z.key = true) : sortL (x1 ++ x2 ++ [e]) = x1 ++ e :: x2 := by
  have h := merge_parts (y1 := [e]) (y2 := []) hu (by simp [Up]) (by simpa using h2) (by simp)
  obtain ⟨u1, u2, _⟩ := up_append.1 hu
  have h3 : Up (x1 ++ [e]) := up_append.2 ⟨u1, by simp [Up], by simpa using h1⟩
  rw [sort_up h3, List.append_nil x2, sort_up u2] at h
  simpa using h

set_option maxHeartbeats 1000000 in
theorem sym_left (w0 : World) (g cap n a b : Nat) (A y B : List En) (e : En) (w : World) (R : Sow w0 g n) (hn : A.length + (1 + (y.length + B.length)) = n) (hsz : n ≤ 1099511627776) (ha : A.length = a) (hb : a + 1 + y.length = b) (hu : Up y)
    (h : Srt w0 g (A ++ (e :: (y ++ B))) w) :
    Calls Try.prog 39 #[.slice (some ⟨g, 0, none⟩) n cap, .int .i64 (a : Int), .int .i64 ((a + 1 : Nat) : Int), .int .i64 (b : Int), .func (.func 27) #[] #[]] w fun ed w' => ed = .returned (.tuple #[]) ∧ Srt w0 g (A ++ (sortL (e :: y) ++ B)) w' := by
  have H0 := Lib.hid h
  have HR := Lib.hid R
  have HLen : Hid ((A ++ (e :: (y ++ B))).length = n) := Lib.hid (by simp; omega)
  have HA := Lib.hid ha
  have HU := Lib.hid hu
  clear h R hu
  go_enter Try.func39, Try.ntmps39
  go_wp2
  go_loopw [10, 11] (fun iv jv wr => ∃ (i j : Nat), iv = .int .i64 (i : Int) ∧ jv = .int .i64 (j : Int) ∧ a + 1 ≤ i ∧ i ≤ j ∧ j ≤ b ∧ Hid (∀ t z, y[t]? = some z → a + 1 + t < i → lt z.key e.key = true) ∧ Hid (∀ t z, y[t]? = some z → j ≤ a + 1 + t → lt z.key e.key = false) ∧ Hid (Srt w0 g (A ++ (e :: (y ++ B))) wr)) (fun iv jv _ => (intOf jv).toNat - (intOf iv).toNat)
  case atStart =>
    exact ⟨a + 1, b, rfl, rfl, by omega, by omega, by omega, Lib.hid (by intro t z _ h; omega), Lib.hid (by intro t z h h2; have := (List.getElem?_eq_some_iff.1 h).1; omega), H0⟩
  case round =>
    obtain ⟨i, j, rfl, rfl, hi1, hij, hjb, H1, H2, HS⟩ := hrel
    clear H0
    by_cases hlt : i < j
    · have i0 : (i : Int) < (j : Int) := by omega
      obtain ⟨q, hq⟩ : ∃ q, q = (i + j) / 2 := ⟨_, rfl⟩
      have eq : ((i : Int) + (j : Int)) / 2 = (q : Int) := by omega
      have q1 : i ≤ q := by omega
      have q2 : q < j := by omega
      clear hq
      have hql : q - (a + 1) < y.length := by omega
      obtain ⟨z, hz⟩ : ∃ z, y[q - (a + 1)]? = some z := ⟨_, List.getElem?_eq_getElem hql⟩
      have HZ := Lib.hid hz
      have HAt : Hid ((A ++ (e :: (y ++ B)))[q]? = some z ∧ (A ++ (e :: (y ++ B)))[a]? = some e) := Lib.hid ⟨by
        have := get_part (A := A ++ [e]) (B := B) hz
        rw [show (A ++ [e]).length + (q - (a + 1)) = q by simp; omega] at this
        simpa using this, by rw [← HA.out]; exact get_mid _ _ _⟩
      clear hz hql
      have eqn : q < n := by omega
      cases hl : lt z.key e.key with
      | true =>
        have hlt2 : decide (cmpE z e < 0) = true := by rw [cmpE_lt]; exact hl
        go_wp2_with fail
        refine FreeS.region_puts (S := fun _ W => Srt w0 g (A ++ (e :: (y ++ B))) W) (sts := [])
          (tab := [(3, [.slice (some ⟨g, 0, none⟩) n cap, .int .i64 (q : Int)], .pointer (some ⟨g, q * 3, none⟩), .pure),
            (4, [.pointer (some ⟨g, q * 3, none⟩)], (z).v, .read),
            (7, [.slice (some ⟨g, 0, none⟩) n cap, .int .i64 (a : Int)], .pointer (some ⟨g, a * 3, none⟩), .pure),
            (8, [.pointer (some ⟨g, a * 3, none⟩)], (e).v, .read),
            (9, [.func (.func 27) #[] #[], (z).v, (e).v], .int .i64 (cmpE z e), .call 27 [(z).v, (e).v]),
            (10, [.int .i64 (cmpE z e), .int .i64 0], .bool true, .pure)])
          (by kernel_rfl) ⟨by kernel_rfl, ⟨FreeS.d_at _ rfl rfl (fun w => at_25 _ _ _ _ (by omega) w),
            FreeS.d_load _ rfl rfl (fun w h => load_37 (h.at HR.out HLen.out HAt.out.1).1),
            FreeS.d_at _ rfl rfl (fun w => at_25 _ _ _ _ (by omega) w),
            FreeS.d_load _ rfl rfl (fun w h => load_37 (h.at HR.out HLen.out HAt.out.2).1),
            FreeS.d_call2 _ rfl rfl enter_27 (fun w h => closure_srt z e h),
            FreeS.d_bin _ rfl rfl (fun xo yo w => cmp_lss3 xo yo w hlt2),
            trivial⟩,
            by kernel_rfl, by kernel_rfl, by kernel_rfl⟩ HS.out.drew (Free.from_ 40 [.func (.func 27) #[] #[], .slice (some ⟨g, 0, none⟩) n cap, .int .i64 (q : Int), .pointer (some ⟨g, q * 3, none⟩), (z).v, .slice (some ⟨g, 0, none⟩) n cap, .int .i64 (a : Int), .pointer (some ⟨g, a * 3, none⟩), (e).v, .int .i64 (cmpE z e), .bool true]) (by kernel_rfl) ?_
        intro w4 h4
        rw [Free.puts_from _ _ _ (Nat.le_of_ble_eq_true rfl)]
        simp only [List.take_succ_cons, List.take_zero, List.drop_succ_cons, List.drop_zero, List.cons_append, List.nil_append, List.length_cons, List.length_nil, Nat.reduceAdd]
        have HF := Lib.hid h4
        have H1n : Hid (∀ t z, y[t]? = some z → a + 1 + t < q + 1 → lt z.key e.key = true) := Lib.hid (fun t z' h h2 => le_lt (up_get HU.out h HZ.out (by omega)) hl)
        clear h4 hlt2
        go_wp2
        go_roundw
        case rel => exact ⟨q + 1, j, by go_num, rfl, by omega, by omega, by omega, H1n, H2, HF⟩
        case measure => simp [intOf]; omega
      | false =>
        have hlt2 : decide (cmpE z e < 0) = false := by rw [cmpE_lt]; exact hl
        go_wp2_with fail
        refine FreeS.region_puts (S := fun _ W => Srt w0 g (A ++ (e :: (y ++ B))) W) (sts := [])
          (tab := [(3, [.slice (some ⟨g, 0, none⟩) n cap, .int .i64 (q : Int)], .pointer (some ⟨g, q * 3, none⟩), .pure),
            (4, [.pointer (some ⟨g, q * 3, none⟩)], (z).v, .read),
            (7, [.slice (some ⟨g, 0, none⟩) n cap, .int .i64 (a : Int)], .pointer (some ⟨g, a * 3, none⟩), .pure),
            (8, [.pointer (some ⟨g, a * 3, none⟩)], (e).v, .read),
            (9, [.func (.func 27) #[] #[], (z).v, (e).v], .int .i64 (cmpE z e), .call 27 [(z).v, (e).v]),
            (10, [.int .i64 (cmpE z e), .int .i64 0], .bool false, .pure)])
          (by kernel_rfl) ⟨by kernel_rfl, ⟨FreeS.d_at _ rfl rfl (fun w => at_25 _ _ _ _ (by omega) w),
            FreeS.d_load _ rfl rfl (fun w h => load_37 (h.at HR.out HLen.out HAt.out.1).1),
            FreeS.d_at _ rfl rfl (fun w => at_25 _ _ _ _ (by omega) w),
            FreeS.d_load _ rfl rfl (fun w h => load_37 (h.at HR.out HLen.out HAt.out.2).1),
            FreeS.d_call2 _ rfl rfl enter_27 (fun w h => closure_srt z e h),
            FreeS.d_bin _ rfl rfl (fun xo yo w => cmp_lss3 xo yo w hlt2),
            trivial⟩,
            by kernel_rfl, by kernel_rfl, by kernel_rfl⟩ HS.out.drew (Free.from_ 40 [.func (.func 27) #[] #[], .slice (some ⟨g, 0, none⟩) n cap, .int .i64 (q : Int), .pointer (some ⟨g, q * 3, none⟩), (z).v, .slice (some ⟨g, 0, none⟩) n cap, .int .i64 (a : Int), .pointer (some ⟨g, a * 3, none⟩), (e).v, .int .i64 (cmpE z e), .bool false]) (by kernel_rfl) ?_
        intro w4 h4
        rw [Free.puts_from _ _ _ (Nat.le_of_ble_eq_true rfl)]
        simp only [List.take_succ_cons, List.take_zero, List.drop_succ_cons, List.drop_zero, List.cons_append, List.nil_append, List.length_cons, List.length_nil, Nat.reduceAdd]
        have HF := Lib.hid h4
        have H2n : Hid (∀ t z, y[t]? = some z → q ≤ a + 1 + t → lt z.key e.key = false) := Lib.hid (fun t z' h h2 => le_trans hl (up_get HU.out HZ.out h (by omega)))
        clear h4 hlt2
        go_wp2
        go_roundw
        case rel => exact ⟨i, q, rfl, rfl, by omega, by omega, by omega, H1, H2n, HF⟩
        case measure => simp [intOf]; omega
    · have i0 : ¬ (i : Int) < (j : Int) := by omega
      obtain rfl : i = j := by omega
      obtain ⟨y1, hy1⟩ : ∃ y1, y1 = y.take (i - (a + 1)) := ⟨_, rfl⟩
      obtain ⟨y2, hy2⟩ : ∃ y2, y2 = y.drop (i - (a + 1)) := ⟨_, rfl⟩
      have HY : Hid (y = y1 ++ y2) := Lib.hid (by rw [hy1, hy2, List.take_append_drop])
      have HG1 : Hid (∀ z ∈ y1, lt z.key e.key = true) := Lib.hid (fun z hz => by
        rw [hy1] at hz
        obtain ⟨t, ht, h⟩ := mem_take_get hz
        exact H1.out t z h (by omega))
      have HG2 : Hid (∀ z ∈ y2, lt z.key e.key = false) := Lib.hid (fun z hz => by
        rw [hy2] at hz
        obtain ⟨t, ht, h⟩ := mem_drop_get hz
        exact H2.out t z h (by omega))
      have hl1 : a + 1 + y1.length = i := by rw [hy1, List.length_take]; omega
      have hl2 : y1.length + y2.length = y.length := by rw [hy1, hy2, List.length_take, List.length_drop]; omega
      have HS2 : Hid (Srt w0 g (A ++ (e :: (y1 ++ (y2 ++ B)))) wr) := Lib.hid (by have := HS.out; rw [HY.out] at this; simpa using this)
      have HLen2 : Hid ((A ++ (e :: (y1 ++ (y2 ++ B)))).length = n) := Lib.hid (by have := HLen.out; rw [HY.out] at this; simpa using this)
      clear hy1 hy2 H1 H2 HS i0
      have i0 : ¬ (i : Int) < (i : Int) := by omega
      obtain ⟨wo, hwo⟩ : ∃ wo, wo = wr := ⟨_, rfl⟩
      subst hwo
      go_wp2
      go_loopw [13] (fun kv wr => ∃ (k : Nat) (s1 s2 : List En), kv = .int .i64 (k : Int) ∧ a + s1.length = k ∧ s1.length + s2.length = y1.length ∧ Hid (s1 ++ s2 = y1) ∧ Hid (Srt w0 g (A ++ (s1 ++ (e :: (s2 ++ (y2 ++ B))))) wr)) (fun kv _ => n - (intOf kv).toNat)
      case atStart => exact ⟨a, [], y1, rfl, rfl, by simp, Lib.hid rfl, HS2⟩
      case round =>
        obtain ⟨k, s1, s2, rfl, hk, hs, H12, HS3⟩ := hrel
        clear HS2
        have ej : (i : Int) - 1 = ((a + y1.length : Nat) : Int) := by omega
        cases s2 with
        | nil =>
          simp only [List.length_nil, Nat.add_zero] at hs
          have i2 : ¬ (k : Int) < (i : Int) - 1 := by omega
          have i3 : ¬ (k : Int) < ((a + y1.length : Nat) : Int) := by omega
          have HE : Hid (Srt w0 g (A ++ (sortL (e :: y) ++ B)) wr) := Lib.hid (by
            rw [HY.out, sort_left (by rw [← HY.out]; exact HU.out) HG1.out HG2.out, ← H12.out]
            simpa using HS3.out)
          clear ej
          go_wp2
          exact bodyPost_ret (results_none rfl _ _ _) rfl ⟨rfl, HE.out⟩
        | cons z s3 =>
          rw [List.length_cons] at hs
          have i2 : (k : Int) < (i : Int) - 1 := by omega
          obtain ⟨k1, hk1⟩ : ∃ k1, k1 = k + 1 := ⟨_, rfl⟩
          have e1 : (k : Int) + 1 = (k1 : Int) := by omega
          have hk2 : k < k1 := by omega
          have hk3 : k1 < n := by omega
          have HP : Hid ((A ++ s1).length = k ∧ (A ++ s1).length + 1 + ([] : List En).length = k1 ∧ k1 = k + 1) := Lib.hid (by simp; omega)
          have HS4 : Hid (Srt w0 g ((A ++ s1) ++ e :: ([] ++ z :: (s3 ++ (y2 ++ B)))) wr) := Lib.hid (by have := HS3.out; simpa using this)
          have hlen : ((A ++ s1) ++ e :: ([] ++ z :: (s3 ++ (y2 ++ B)))).length = n := by have := HLen2.out; simp at this ⊢; omega
          have X1 := HS4.out.drew.at HR.out hlen (i := k) (x := e) (by rw [← HP.out.1]; exact get_mid _ _ _)
          have X2 := HS4.out.drew.at HR.out hlen (i := k1) (x := z) (by rw [← HP.out.2.1]; exact get_far _ _ _ _ _)
          have HF : Hid (Srt w0 g (A ++ ((s1 ++ [z]) ++ (e :: (s3 ++ (y2 ++ B))))) (put3 (put3 wr.drew g k z) g k1 e)) := Lib.hid (by
            have h6 := (HS4.out.drew.swap HR.out).1
            rw [HP.out.2.1, HP.out.1] at h6
            simpa using h6)
          have HU2 : Hid ((s1 ++ [z]) ++ s3 = y1) := Lib.hid (by simpa using H12.out)
          clear HS3 HS4 H12 hlen hk1 ej
          go_wp2_with fail
          refine FreeS.region_puts (S := three wr.drew (put3 wr.drew g k z) (put3 (put3 wr.drew g k z) g k1 e)) (sts := [15, 17])
            (tab := [(4, [.int .i64 (k : Int), .int .i64 1], .int .i64 (k1 : Int), .pure),
              (7, [.int .i64 (k : Int), .int .i64 1], .int .i64 (k1 : Int), .pure),
              (8, [.slice (some ⟨g, 0, none⟩) n cap, .int .i64 (k1 : Int)], .pointer (some ⟨g, k1 * 3, none⟩), .pure),
              (9, [.pointer (some ⟨g, k1 * 3, none⟩)], (z).v, .read),
              (12, [.slice (some ⟨g, 0, none⟩) n cap, .int .i64 (k : Int)], .pointer (some ⟨g, k * 3, none⟩), .pure),
              (13, [.pointer (some ⟨g, k * 3, none⟩)], (e).v, .read),
              (14, [.slice (some ⟨g, 0, none⟩) n cap, .int .i64 (k : Int)], .pointer (some ⟨g, k * 3, none⟩), .pure),
              (15, [.pointer (some ⟨g, k * 3, none⟩), (z).v], undef, .put 0),
              (16, [.slice (some ⟨g, 0, none⟩) n cap, .int .i64 (k1 : Int)], .pointer (some ⟨g, k1 * 3, none⟩), .pure),
              (17, [.pointer (some ⟨g, k1 * 3, none⟩), (e).v], undef, .put 1)])
            (by kernel_rfl) ⟨by kernel_rfl, ⟨FreeS.d_bin _ rfl rfl (fun xo yo w => cmp_add3 xo yo w e1 (by omega) (by omega)),
              FreeS.d_bin _ rfl rfl (fun xo yo w => cmp_add3 xo yo w e1 (by omega) (by omega)),
              FreeS.d_at _ rfl rfl (fun w => at_25 _ _ _ _ (by omega) w),
              FreeS.d_load _ rfl rfl (fun w h => (by rw [h]; exact load_37 X2.1)),
              FreeS.d_at _ rfl rfl (fun w => at_25 _ _ _ _ (by omega) w),
              FreeS.d_load _ rfl rfl (fun w h => (by rw [h]; exact load_37 X1.1)),
              FreeS.d_at _ rfl rfl (fun w => at_25 _ _ _ _ (by omega) w),
              FreeS.d_store _ rfl rfl (fun w h => (by rw [h]; exact ⟨_, store_37 z X1, rfl⟩)),
              FreeS.d_at _ rfl rfl (fun w => at_25 _ _ _ _ (by omega) w),
              FreeS.d_store _ rfl rfl (fun w h => (by rw [h]; exact ⟨_, store_37 e (at_put3 X2 (by omega)), rfl⟩)),
              trivial⟩,
              by kernel_rfl, by kernel_rfl, by kernel_rfl⟩ rfl (Free.from_ 61 [.slice (some ⟨g, 0, none⟩) n cap, .int .i64 (k : Int), .slice (some ⟨g, 0, none⟩) n cap, .int .i64 (k : Int), .int .i64 (k1 : Int), .slice (some ⟨g, 0, none⟩) n cap, .int .i64 (k : Int), .int .i64 (k1 : Int), .pointer (some ⟨g, k1 * 3, none⟩), (z).v, .slice (some ⟨g, 0, none⟩) n cap, .int .i64 (k : Int), .pointer (some ⟨g, k * 3, none⟩), (e).v, .pointer (some ⟨g, k * 3, none⟩), .pointer (some ⟨g, k1 * 3, none⟩)]) (by kernel_rfl) ?_
          intro w5 h5
          rw [Free.puts_from _ _ _ (Nat.le_of_ble_eq_true rfl)]
          simp only [List.take_succ_cons, List.take_zero, List.drop_succ_cons, List.drop_zero, List.cons_append, List.nil_append, List.length_cons, List.length_nil, Nat.reduceAdd]
          subst h5
          clear X1 X2
          generalize put3 (put3 wr.drew g k z) g k1 e = w6 at HF ⊢
          go_wp2
          go_roundw
          case rel => exact ⟨k1, s1 ++ [z], s3, by rw [HP.out.2.2], by have := HP.out.2.2; simp; omega, by simp; omega, HU2, HF⟩
          case measure => have := HP.out.2.2; simp [intOf]; omega
end Go.Proofs.Ythglldnhffkefaa
