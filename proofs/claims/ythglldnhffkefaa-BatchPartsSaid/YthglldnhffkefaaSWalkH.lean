/- What symMergeCmpFunc leaves of two sorted parts that stand side by side: both as one, sorted. Condition: the row has at most 2^40 entries. -/
import Derived.Test.YthglldnhffkefaaSWalkG
import Derived.Deep.DeepCutAuto
namespace Go.Proofs.Ythglldnhffkefaa
open Go.RowKit Go.Op Go.Sort
set_option maxRecDepth 100000

/-- symMergeCmpFunc is right where fewer than N entries are to be merged. -/
def SymOk (w0 : World) (g cap n N : Nat) : Prop := ∀ (A x y B : List En) (a m b : Nat) (w : World), x.length + y.length < N → 0 < x.length → 0 < y.length → A.length + (x.length + (y.length + B.length)) = n → A.length = a → a + x.length = m → m + y.length = b → Up x → Up y → Srt w0 g (A ++ (x ++ (y ++ B))) w →
  Calls Try.prog 39 #[.slice (some ⟨g, 0, none⟩) n cap, .int .i64 (a : Int), .int .i64 (m : Int), .int .i64 (b : Int), .func (.func 27) #[] #[]] w fun ed w' => ed = .returned (.tuple #[]) ∧ Srt w0 g (A ++ (sortL (x ++ y) ++ B)) w'

set_option maxHeartbeats 4000000 in
theorem sym_a (w0 : World) (g cap n N a m b : Nat) (A x y B : List En) (w : World) (R : Sow w0 g n) (hsz : n ≤ 1099511627776) (ih : SymOk w0 g cap n N) (hN : x.length + y.length = N) (hx : 1 < x.length) (hy : 1 < y.length) (hn : A.length + (x.length + (y.length + B.length)) = n) (ha : A.length = a) (hm : a + x.length = m) (hb : m + y.length = b) (hmm : (a + b) / 2 < m) (hux : Up x) (huy : Up y)
    (h : Srt w0 g (A ++ (x ++ (y ++ B))) w) :
    Calls Try.prog 39 #[.slice (some ⟨g, 0, none⟩) n cap, .int .i64 (a : Int), .int .i64 (m : Int), .int .i64 (b : Int), .func (.func 27) #[] #[]] w fun ed w' => ed = .returned (.tuple #[]) ∧ Srt w0 g (A ++ (sortL (x ++ y) ++ B)) w' := by
  have H0 := Lib.hid h
  have HR := Lib.hid R
  have IH := Lib.hid ih
  have HLen : Hid ((A ++ (x ++ (y ++ B))).length = n) := Lib.hid (by simp; omega)
  have HA := Lib.hid ha
  have HU := Lib.hid (And.intro hux huy)
  obtain ⟨kx, hkx⟩ : ∃ kx, kx = x.length := ⟨_, rfl⟩
  obtain ⟨ky, hky⟩ : ∃ ky, ky = y.length := ⟨_, rfl⟩
  have f1 : (m : Int) - (a : Int) = (kx : Int) := by omega
  have f2 : ((kx : Int) == 1) = false := by simp; omega
  have f3 : (b : Int) - (m : Int) = (ky : Int) := by omega
  have f4 : ((ky : Int) == 1) = false := by simp; omega
  obtain ⟨mid, hmid⟩ : ∃ mid, mid = (a + b) / 2 := ⟨_, rfl⟩
  obtain ⟨nn, hnn⟩ : ∃ nn, nn = mid + m := ⟨_, rfl⟩
  obtain ⟨p, hp⟩ : ∃ p, p = nn - 1 := ⟨_, rfl⟩
  rw [← hmid] at hmm
  have f5 : ((a : Int) + (b : Int)) / 2 = (mid : Int) := by omega
  have f6 : (mid : Int) + (m : Int) = (nn : Int) := by omega
  have f7 : (nn : Int) - 1 = (p : Int) := by omega
  have f8 : (mid : Int) < (m : Int) := by omega
  obtain ⟨lo, hlo⟩ : ∃ lo, lo = nn - b := ⟨_, rfl⟩
  obtain ⟨hi, hhi⟩ : ∃ hi, hi = mid := ⟨_, rfl⟩
  have f9 : (nn : Int) - (b : Int) = (lo : Int) := by omega
  have HB : Hid (a ≤ lo ∧ lo ≤ hi ∧ hi ≤ mid ∧ hi ≤ m ∧ x.length = m - a ∧ a + x.length = m ∧ m + y.length = b ∧ mid ≤ lo + y.length ∧ nn = mid + m ∧ p + 1 = nn ∧ A.length = a ∧ b + B.length = n ∧ a < m ∧ a < mid ∧ mid < b ∧ x.length + y.length = N ∧ (lo = a ∨ lo + b = nn) ∧ (hi = m ∨ hi = mid)) := Lib.hid (by omega)
  have g1 : lo ≤ hi := by omega
  have g2 : hi = mid := hhi
  have g3 : b ≤ n := by omega
  have g4 : m < b := by omega
  have HG := Lib.hid g2
  clear h R ih hux huy hn ha hm hb hx hy hkx hky hmid hnn hp hlo hhi g2 hN
  go_enter Try.func39, Try.ntmps39
  go_wp2
  clear f1 f2 f3 f4 f5 f6 f7 f8 f9
  go_loopw [20, 21] (fun sv rv wr => ∃ (s r : Nat), sv = .int .i64 (s : Int) ∧ rv = .int .i64 (r : Int) ∧ lo ≤ s ∧ s ≤ r ∧ r ≤ hi ∧ Hid (∀ c u v, lo ≤ c → c < s → x[c - a]? = some u → y[mid - 1 - c]? = some v → lt v.key u.key = false) ∧ Hid (∀ c u v, r ≤ c → c < hi → x[c - a]? = some u → y[mid - 1 - c]? = some v → lt v.key u.key = true) ∧ Hid (Srt w0 g (A ++ (x ++ (y ++ B))) wr)) (fun sv rv _ => (intOf rv).toNat - (intOf sv).toNat)
  case atStart => exact ⟨lo, hi, rfl, by rw [HG.out], by omega, by omega, by omega, Lib.hid (by intro c u v h h2; omega), Lib.hid (by intro c u v h h2; omega), H0⟩
  case round =>
    obtain ⟨s, r, rfl, rfl, hls, hsr, hrh, H1, H2, HS⟩ := hrel
    clear H0
    by_cases hlt : s < r
    · have i0 : (s : Int) < (r : Int) := by omega
      obtain ⟨q, hq⟩ : ∃ q, q = (s + r) / 2 := ⟨_, rfl⟩
      have eq : ((s : Int) + (r : Int)) / 2 = (q : Int) := by omega
      have q1 : s ≤ q := by omega
      have q2 : q < r := by omega
      clear hq
      have hb := HB.out
      have hql : q - a < x.length := by omega
      have hqr : mid - 1 - q < y.length := by omega
      obtain ⟨u, hu⟩ : ∃ u, x[q - a]? = some u := ⟨_, List.getElem?_eq_getElem hql⟩
      obtain ⟨v, hv⟩ : ∃ v, y[mid - 1 - q]? = some v := ⟨_, List.getElem?_eq_getElem hqr⟩
      have HZ : Hid (x[q - a]? = some u ∧ y[mid - 1 - q]? = some v) := Lib.hid ⟨hu, hv⟩
      obtain ⟨pq, hpq⟩ : ∃ pq, pq = m + (mid - 1 - q) := ⟨_, rfl⟩
      have epq : (p : Int) - (q : Int) = (pq : Int) := by omega
      have HAt : Hid ((A ++ (x ++ (y ++ B)))[q]? = some u ∧ (A ++ (x ++ (y ++ B)))[pq]? = some v) := Lib.hid ⟨by
        have := get_part (A := A) (B := y ++ B) hu
        rwa [HA.out, show a + (q - a) = q by omega] at this, by
        have := get_part (A := A ++ x) (B := B) hv
        rw [show (A ++ x).length + (mid - 1 - q) = pq by simp; omega] at this
        simpa using this⟩
      have hpn : pq < n := by omega
      have hqn : q < n := by omega
      clear hu hv hql hqr hpq hb
      cases hl : lt v.key u.key with
      | false =>
        have hlt2 : decide (cmpE v u < 0) = false := by rw [cmpE_lt]; exact hl
        go_wp2_with fail
        refine FreeS.region_puts (S := fun _ W => Srt w0 g (A ++ (x ++ (y ++ B))) W) (sts := [])
          (tab := [(4, [.int .i64 (p : Int), .int .i64 (q : Int)], .int .i64 (pq : Int), .pure),
            (5, [.slice (some ⟨g, 0, none⟩) n cap, .int .i64 (pq : Int)], .pointer (some ⟨g, pq * 3, none⟩), .pure),
            (6, [.pointer (some ⟨g, pq * 3, none⟩)], (v).v, .read),
            (9, [.slice (some ⟨g, 0, none⟩) n cap, .int .i64 (q : Int)], .pointer (some ⟨g, q * 3, none⟩), .pure),
            (10, [.pointer (some ⟨g, q * 3, none⟩)], (u).v, .read),
            (11, [.func (.func 27) #[] #[], (v).v, (u).v], .int .i64 (cmpE v u), .call 27 [(v).v, (u).v]),
            (12, [.int .i64 (cmpE v u), .int .i64 0], .bool false, .pure)])
          (by kernel_rfl) ⟨by kernel_rfl, ⟨FreeS.d_bin _ rfl rfl (fun xo yo w => cmp_sub3 xo yo w epq (by omega) (by omega)),
            FreeS.d_at _ rfl rfl (fun w => at_25 _ _ _ _ (by omega) w),
            FreeS.d_load _ rfl rfl (fun w h => load_37 (h.at HR.out HLen.out HAt.out.2).1),
            FreeS.d_at _ rfl rfl (fun w => at_25 _ _ _ _ (by omega) w),
            FreeS.d_load _ rfl rfl (fun w h => load_37 (h.at HR.out HLen.out HAt.out.1).1),
            FreeS.d_call2 _ rfl rfl enter_27 (fun w h => closure_srt v u h),
            FreeS.d_bin _ rfl rfl (fun xo yo w => cmp_lss3 xo yo w hlt2),
            trivial⟩,
            by kernel_rfl, by kernel_rfl, by kernel_rfl⟩ HS.out.drew (Free.from_ 158 [.func (.func 27) #[] #[], .slice (some ⟨g, 0, none⟩) n cap, .int .i64 (p : Int), .int .i64 (q : Int), .int .i64 (pq : Int), .pointer (some ⟨g, pq * 3, none⟩), (v).v, .slice (some ⟨g, 0, none⟩) n cap, .int .i64 (q : Int), .pointer (some ⟨g, q * 3, none⟩), (u).v, .int .i64 (cmpE v u), .bool false, .bool true]) (by kernel_rfl) ?_
        intro w4 h4
        rw [Free.puts_from _ _ _ (Nat.le_of_ble_eq_true rfl)]
        simp only [List.take_succ_cons, List.take_zero, List.drop_succ_cons, List.drop_zero, List.cons_append, List.nil_append, List.length_cons, List.length_nil, Nat.reduceAdd]
        have HF := Lib.hid h4
        have H1n : Hid (∀ c u v, lo ≤ c → c < q + 1 → x[c - a]? = some u → y[mid - 1 - c]? = some v → lt v.key u.key = false) := Lib.hid (fun c u' v' h1 h2 h3 h4 => le_trans (le_trans (up_get HU.out.1 h3 HZ.out.1 (by omega)) hl) (up_get HU.out.2 HZ.out.2 h4 (by omega)))
        clear h4 hlt2 epq
        go_wp2
        go_roundw
        case rel => exact ⟨q + 1, r, by go_num, rfl, by omega, by omega, by omega, H1n, H2, HF⟩
        case measure => simp [intOf]; omega
      | true =>
        have hlt2 : decide (cmpE v u < 0) = true := by rw [cmpE_lt]; exact hl
        go_wp2_with fail
        refine FreeS.region_puts (S := fun _ W => Srt w0 g (A ++ (x ++ (y ++ B))) W) (sts := [])
          (tab := [(4, [.int .i64 (p : Int), .int .i64 (q : Int)], .int .i64 (pq : Int), .pure),
            (5, [.slice (some ⟨g, 0, none⟩) n cap, .int .i64 (pq : Int)], .pointer (some ⟨g, pq * 3, none⟩), .pure),
            (6, [.pointer (some ⟨g, pq * 3, none⟩)], (v).v, .read),
            (9, [.slice (some ⟨g, 0, none⟩) n cap, .int .i64 (q : Int)], .pointer (some ⟨g, q * 3, none⟩), .pure),
            (10, [.pointer (some ⟨g, q * 3, none⟩)], (u).v, .read),
            (11, [.func (.func 27) #[] #[], (v).v, (u).v], .int .i64 (cmpE v u), .call 27 [(v).v, (u).v]),
            (12, [.int .i64 (cmpE v u), .int .i64 0], .bool true, .pure)])
          (by kernel_rfl) ⟨by kernel_rfl, ⟨FreeS.d_bin _ rfl rfl (fun xo yo w => cmp_sub3 xo yo w epq (by omega) (by omega)),
            FreeS.d_at _ rfl rfl (fun w => at_25 _ _ _ _ (by omega) w),
            FreeS.d_load _ rfl rfl (fun w h => load_37 (h.at HR.out HLen.out HAt.out.2).1),
            FreeS.d_at _ rfl rfl (fun w => at_25 _ _ _ _ (by omega) w),
            FreeS.d_load _ rfl rfl (fun w h => load_37 (h.at HR.out HLen.out HAt.out.1).1),
            FreeS.d_call2 _ rfl rfl enter_27 (fun w h => closure_srt v u h),
            FreeS.d_bin _ rfl rfl (fun xo yo w => cmp_lss3 xo yo w hlt2),
            trivial⟩,
            by kernel_rfl, by kernel_rfl, by kernel_rfl⟩ HS.out.drew (Free.from_ 158 [.func (.func 27) #[] #[], .slice (some ⟨g, 0, none⟩) n cap, .int .i64 (p : Int), .int .i64 (q : Int), .int .i64 (pq : Int), .pointer (some ⟨g, pq * 3, none⟩), (v).v, .slice (some ⟨g, 0, none⟩) n cap, .int .i64 (q : Int), .pointer (some ⟨g, q * 3, none⟩), (u).v, .int .i64 (cmpE v u), .bool true, .bool false]) (by kernel_rfl) ?_
        intro w4 h4
        rw [Free.puts_from _ _ _ (Nat.le_of_ble_eq_true rfl)]
        simp only [List.take_succ_cons, List.take_zero, List.drop_succ_cons, List.drop_zero, List.cons_append, List.nil_append, List.length_cons, List.length_nil, Nat.reduceAdd]
        have HF := Lib.hid h4
        have H2n : Hid (∀ c u v, q ≤ c → c < hi → x[c - a]? = some u → y[mid - 1 - c]? = some v → lt v.key u.key = true) := Lib.hid (fun c u' v' h1 h2 h3 h4 => lt_le (le_lt (up_get HU.out.2 h4 HZ.out.2 (by omega)) hl) (up_get HU.out.1 HZ.out.1 h3 (by omega)))
        clear h4 hlt2 epq
        go_wp2
        go_roundw
        case rel => exact ⟨s, q, rfl, rfl, by omega, by omega, by omega, H1, H2n, HF⟩
        case measure => simp [intOf]; omega
    · have i0 : ¬ (s : Int) < (r : Int) := by omega
      obtain rfl : s = r := by omega
      have hb := HB.out
      obtain ⟨x1, hx1⟩ : ∃ x1, x1 = x.take (s - a) := ⟨_, rfl⟩
      obtain ⟨x2, hx2⟩ : ∃ x2, x2 = x.drop (s - a) := ⟨_, rfl⟩
      obtain ⟨y1, hy1⟩ : ∃ y1, y1 = y.take (mid - s) := ⟨_, rfl⟩
      obtain ⟨y2, hy2⟩ : ∃ y2, y2 = y.drop (mid - s) := ⟨_, rfl⟩
      obtain ⟨en, hen⟩ : ∃ en, en = m + (mid - s) := ⟨_, rfl⟩
      have een : (nn : Int) - (s : Int) = (en : Int) := by omega
      have een2 : (mid : Int) + (m : Int) - (s : Int) = (en : Int) := by omega
      have HX : Hid (x = x1 ++ x2 ∧ y = y1 ++ y2) := Lib.hid (by rw [hx1, hx2, hy1, hy2, List.take_append_drop, List.take_append_drop]; exact ⟨rfl, rfl⟩)
      have l1 : a + x1.length = s := by rw [hx1, List.length_take]; omega
      have l2 : s + x2.length = m := by rw [hx2, List.length_drop]; omega
      have l3 : s + y1.length = mid := by rw [hy1, List.length_take]; omega
      have l4 : m + y1.length = en := by rw [hy1, List.length_take]; omega
      have l5 : en + y2.length = b := by rw [hy2, List.length_drop]; omega
      have l6 : mid + x2.length = en := by omega
      have HM : Hid (sortL (x ++ y) = sortL (x1 ++ y1) ++ sortL (x2 ++ y2)) := Lib.hid (by
        have e1 : ∀ u ∈ y1, ∀ v ∈ x2, lt u.key v.key = true := by
          intro u hu v hv
          rw [hy1] at hu
          rw [hx2] at hv
          obtain ⟨t1, ht1, g1⟩ := mem_take_get hu
          obtain ⟨t2, ht2, g2⟩ := mem_drop_get hv
          have b2 := (List.getElem?_eq_some_iff.1 g2).1
          obtain ⟨u', hu'⟩ : ∃ u', y[mid - 1 - s]? = some u' := ⟨_, List.getElem?_eq_getElem (by omega)⟩
          obtain ⟨v', hv'⟩ : ∃ v', x[s - a]? = some v' := ⟨_, List.getElem?_eq_getElem (by omega)⟩
          exact lt_le (le_lt (up_get HU.out.2 g1 hu' (by omega)) (H2.out s v' u' (Nat.le_refl _) (by omega) hv' hu')) (up_get HU.out.1 hv' g2 (by omega))
        have e2 : ∀ u ∈ x1, ∀ v ∈ y2, lt v.key u.key = false := by
          intro u hu v hv
          rw [hx1] at hu
          rw [hy2] at hv
          obtain ⟨t1, ht1, g1⟩ := mem_take_get hu
          obtain ⟨t2, ht2, g2⟩ := mem_drop_get hv
          have b2 := (List.getElem?_eq_some_iff.1 g2).1
          obtain ⟨u', hu'⟩ : ∃ u', x[s - 1 - a]? = some u' := ⟨_, List.getElem?_eq_getElem (by omega)⟩
          obtain ⟨v', hv'⟩ : ∃ v', y[mid - 1 - (s - 1)]? = some v' := ⟨_, List.getElem?_eq_getElem (by omega)⟩
          exact le_trans (le_trans (up_get HU.out.1 g1 hu' (by omega)) (H1.out (s - 1) u' v' (by omega) (by omega) hu' hv')) (up_get HU.out.2 hv' g2 (by omega))
        have h3 := merge_parts (x1 := x1) (x2 := x2) (y1 := y1) (y2 := y2) (by rw [← HX.out.1]; exact HU.out.1) (by rw [← HX.out.2]; exact HU.out.2) e1 e2
        rw [HX.out.1, HX.out.2]
        exact h3)
      have HUU : Hid ((Up x1 ∧ Up x2) ∧ Up y1 ∧ Up y2) := Lib.hid (by
        have h1 := HU.out.1
        have h2 := HU.out.2
        rw [HX.out.1] at h1
        rw [HX.out.2] at h2
        obtain ⟨a1, a2, _⟩ := up_append.1 h1
        obtain ⟨b1, b2, _⟩ := up_append.1 h2
        exact ⟨⟨a1, a2⟩, b1, b2⟩)
      have HS1 : Hid (Srt w0 g (A ++ (x1 ++ (x2 ++ (y1 ++ (y2 ++ B))))) wr) := Lib.hid (by have := HS.out; rw [HX.out.1, HX.out.2] at this; simpa using this)
      have hBn : b + B.length = n := by omega
      have HN2 : Hid (x1.length + y1.length < N ∧ x2.length + y2.length < N) := Lib.hid (by omega)
      clear hx1 hx2 hy1 hy2 hen H1 H2 HS hb
      have HBL := Lib.hid hBn
      have hb := HB.out
      by_cases hP : s < mid
      · have d1 : (s : Int) < (m : Int) := by omega
        have d2 : (m : Int) < (en : Int) := by omega
        have HC := Lib.hid (rotate_any w0 g cap n s m en (A ++ x1) x2 y1 (y2 ++ B) wr HR.out (by have := HBL.out; have := HA.out; simp; omega) hsz (by have := HA.out; simp; omega) l2 l4 (by omega) (by omega) (by have := HS1.out; simpa using this))
        go_wp2_with fail
        refine HC.out.mono ?_
        rintro e w1 ⟨rfl, h1⟩
        have HF1 : Hid (Srt w0 g (A ++ (x1 ++ (y1 ++ (x2 ++ (y2 ++ B))))) w1) := Lib.hid (by simpa using h1)
        clear h1 HC
        have d4 : (s : Int) < (mid : Int) := by omega
        have d5 : (mid : Int) < (en : Int) := by omega
        by_cases c3 : a < s
        · have d3 : (a : Int) < (s : Int) := by omega
          have HC2 := Lib.hid (IH.out A x1 y1 (x2 ++ (y2 ++ B)) a s mid w1 HN2.out.1 (by omega) (by omega) (by have := HBL.out; have := HA.out; simp; omega) HA.out l1 l3 HUU.out.1.1 HUU.out.2.1 HF1.out)
          go_wp2_with fail
          refine HC2.out.mono ?_
          rintro e w2 ⟨rfl, h1⟩
          have HF2 := Lib.hid h1
          clear h1 HC2
          by_cases c6 : en < b
          · have d6 : (en : Int) < (b : Int) := by omega
            have HC3 := Lib.hid (IH.out (A ++ sortL (x1 ++ y1)) x2 y2 B mid en b w2 HN2.out.2 (by omega) (by omega) (by have := HBL.out; have := HA.out; simp [sort_length]; omega) (by have := HA.out; simp [sort_length]; omega) l6 l5 HUU.out.1.2 HUU.out.2.2 (by have := HF2.out; simpa using this))
            go_wp2_with fail
            refine HC3.out.mono ?_
            rintro e w3 ⟨rfl, h1⟩
            have HF : Hid (Srt w0 g (A ++ (sortL (x ++ y) ++ B)) w3) := Lib.hid (by rw [HM.out]; simpa using h1)
            clear h1 HC3
            go_wp2
            go_end0
            exact ⟨rfl, HF.out⟩
          · have d6 : ¬ (en : Int) < (b : Int) := by omega
            have HF : Hid (Srt w0 g (A ++ (sortL (x ++ y) ++ B)) w2) := Lib.hid (by
              have h2 : x2 = [] ∨ y2 = [] := by
                by_cases z : x2.length = 0
                · exact .inl (List.eq_nil_of_length_eq_zero z)
                · exact .inr (List.eq_nil_of_length_eq_zero (by omega))
              have h3 : sortL (x2 ++ y2) = x2 ++ y2 := by
                rcases h2 with rfl | rfl
                · exact sort_up HUU.out.2.2
                · rw [List.append_nil]; exact sort_up HUU.out.1.2
              have h1 := HF2.out
              rw [HM.out, h3]
              simpa using h1)
            go_wp2
            go_end0
            exact ⟨rfl, HF.out⟩
        · have d3 : ¬ (a : Int) < (s : Int) := by omega
          have HF2 : Hid (Srt w0 g (A ++ (sortL (x1 ++ y1) ++ (x2 ++ (y2 ++ B)))) w1) := Lib.hid (by
            have h1 := HF1.out
            have h2 : x1 = [] ∨ y1 = [] := by
              by_cases z : x1.length = 0
              · exact .inl (List.eq_nil_of_length_eq_zero z)
              · exact .inr (List.eq_nil_of_length_eq_zero (by omega))
            have h3 : sortL (x1 ++ y1) = x1 ++ y1 := by
              rcases h2 with rfl | rfl
              · exact sort_up HUU.out.2.1
              · rw [List.append_nil]; exact sort_up HUU.out.1.1
            rw [h3]
            simpa using h1)
          by_cases c6 : en < b
          · have d6 : (en : Int) < (b : Int) := by omega
            have HC3 := Lib.hid (IH.out (A ++ sortL (x1 ++ y1)) x2 y2 B mid en b w1 HN2.out.2 (by omega) (by omega) (by have := HBL.out; have := HA.out; simp [sort_length]; omega) (by have := HA.out; simp [sort_length]; omega) l6 l5 HUU.out.1.2 HUU.out.2.2 (by have := HF2.out; simpa using this))
            go_wp2_with fail
            refine HC3.out.mono ?_
            rintro e w3 ⟨rfl, h1⟩
            have HF : Hid (Srt w0 g (A ++ (sortL (x ++ y) ++ B)) w3) := Lib.hid (by rw [HM.out]; simpa using h1)
            clear h1 HC3
            go_wp2
            go_end0
            exact ⟨rfl, HF.out⟩
          · have d6 : ¬ (en : Int) < (b : Int) := by omega
            have HF : Hid (Srt w0 g (A ++ (sortL (x ++ y) ++ B)) w1) := Lib.hid (by
              have h2 : x2 = [] ∨ y2 = [] := by
                by_cases z : x2.length = 0
                · exact .inl (List.eq_nil_of_length_eq_zero z)
                · exact .inr (List.eq_nil_of_length_eq_zero (by omega))
              have h3 : sortL (x2 ++ y2) = x2 ++ y2 := by
                rcases h2 with rfl | rfl
                · exact sort_up HUU.out.2.2
                · rw [List.append_nil]; exact sort_up HUU.out.1.2
              have h1 := HF2.out
              rw [HM.out, h3]
              simpa using h1)
            go_wp2
            go_end0
            exact ⟨rfl, HF.out⟩
      · obtain rfl : s = mid := by omega
        obtain rfl : en = m := by omega
        clear een een2
        have e9 : (s : Int) + (en : Int) - (s : Int) = (en : Int) := by omega
        have d1 : (s : Int) < (en : Int) := by omega
        have d2 : ¬ (en : Int) < (en : Int) := by omega
        have d3 : (a : Int) < (s : Int) := by omega
        have d4 : ¬ (s : Int) < (s : Int) := by omega
        have d6 : (en : Int) < (b : Int) := by omega
        have HF1 : Hid (Srt w0 g (A ++ (x1 ++ (y1 ++ (x2 ++ (y2 ++ B))))) wr) := Lib.hid (by
          have h1 := HS1.out
          have h2 : x2 = [] ∨ y1 = [] := by
            by_cases z : x2.length = 0
            · exact .inl (List.eq_nil_of_length_eq_zero z)
            · exact .inr (List.eq_nil_of_length_eq_zero (by omega))
          rcases h2 with rfl | rfl <;> simpa using h1)
        have HF2 : Hid (Srt w0 g (A ++ (sortL (x1 ++ y1) ++ (x2 ++ (y2 ++ B)))) wr) := Lib.hid (by
          have h1 := HF1.out
          have h2 : x1 = [] ∨ y1 = [] := by
            by_cases z : x1.length = 0
            · exact .inl (List.eq_nil_of_length_eq_zero z)
            · exact .inr (List.eq_nil_of_length_eq_zero (by omega))
          have h3 : sortL (x1 ++ y1) = x1 ++ y1 := by
            rcases h2 with rfl | rfl
            · exact sort_up HUU.out.2.1
            · rw [List.append_nil]; exact sort_up HUU.out.1.1
          rw [h3]
          simpa using h1)
        have HC3 := Lib.hid (IH.out (A ++ sortL (x1 ++ y1)) x2 y2 B s en b wr HN2.out.2 (by omega) (by omega) (by have := HBL.out; have := HA.out; simp [sort_length]; omega) (by have := HA.out; simp [sort_length]; omega) l6 l5 HUU.out.1.2 HUU.out.2.2 (by have := HF2.out; simpa using this))
        go_wp2_with fail
        refine HC3.out.mono ?_
        rintro e w3 ⟨rfl, h1⟩
        have HF : Hid (Srt w0 g (A ++ (sortL (x ++ y) ++ B)) w3) := Lib.hid (by rw [HM.out]; simpa using h1)
        clear h1 HC3
        go_wp2
        go_end0
        exact ⟨rfl, HF.out⟩


set_option maxHeartbeats 4000000 in
theorem sym_b (w0 : World) (g cap n N a m b : Nat) (A x y B : List En) (w : World) (R : Sow w0 g n) (hsz : n ≤ 1099511627776) (ih : SymOk w0 g cap n N) (hN : x.length + y.length = N) (hx : 1 < x.length) (hy : 1 < y.length) (hn : A.length + (x.length + (y.length + B.length)) = n) (ha : A.length = a) (hm : a + x.length = m) (hb : m + y.length = b) (hmm : ¬ (a + b) / 2 < m) (hux : Up x) (huy : Up y)
    (h : Srt w0 g (A ++ (x ++ (y ++ B))) w) :
    Calls Try.prog 39 #[.slice (some ⟨g, 0, none⟩) n cap, .int .i64 (a : Int), .int .i64 (m : Int), .int .i64 (b : Int), .func (.func 27) #[] #[]] w fun ed w' => ed = .returned (.tuple #[]) ∧ Srt w0 g (A ++ (sortL (x ++ y) ++ B)) w' := by
  have H0 := Lib.hid h
  have HR := Lib.hid R
  have IH := Lib.hid ih
  have HLen : Hid ((A ++ (x ++ (y ++ B))).length = n) := Lib.hid (by simp; omega)
  have HA := Lib.hid ha
  have HU := Lib.hid (And.intro hux huy)
  obtain ⟨kx, hkx⟩ : ∃ kx, kx = x.length := ⟨_, rfl⟩
  obtain ⟨ky, hky⟩ : ∃ ky, ky = y.length := ⟨_, rfl⟩
  have f1 : (m : Int) - (a : Int) = (kx : Int) := by omega
  have f2 : ((kx : Int) == 1) = false := by simp; omega
  have f3 : (b : Int) - (m : Int) = (ky : Int) := by omega
  have f4 : ((ky : Int) == 1) = false := by simp; omega
  obtain ⟨mid, hmid⟩ : ∃ mid, mid = (a + b) / 2 := ⟨_, rfl⟩
  obtain ⟨nn, hnn⟩ : ∃ nn, nn = mid + m := ⟨_, rfl⟩
  obtain ⟨p, hp⟩ : ∃ p, p = nn - 1 := ⟨_, rfl⟩
  rw [← hmid] at hmm
  have f5 : ((a : Int) + (b : Int)) / 2 = (mid : Int) := by omega
  have f6 : (mid : Int) + (m : Int) = (nn : Int) := by omega
  have f7 : (nn : Int) - 1 = (p : Int) := by omega
  have f8 : ¬ (mid : Int) < (m : Int) := by omega
  obtain ⟨lo, hlo⟩ : ∃ lo, lo = a := ⟨_, rfl⟩
  obtain ⟨hi, hhi⟩ : ∃ hi, hi = m := ⟨_, rfl⟩
  have HB : Hid (a ≤ lo ∧ lo ≤ hi ∧ hi ≤ mid ∧ hi ≤ m ∧ x.length = m - a ∧ a + x.length = m ∧ m + y.length = b ∧ mid ≤ lo + y.length ∧ nn = mid + m ∧ p + 1 = nn ∧ A.length = a ∧ b + B.length = n ∧ a < m ∧ a < mid ∧ mid < b ∧ x.length + y.length = N ∧ (lo = a ∨ lo + b = nn) ∧ (hi = m ∨ hi = mid)) := Lib.hid (by omega)
  have g1 : lo ≤ hi := by omega
  have g3 : b ≤ n := by omega
  have g4 : m < b := by omega
  have HG := Lib.hid hhi
  have HG2 := Lib.hid hlo
  clear h R ih hux huy hn ha hm hb hx hy hkx hky hmid hnn hp hlo hhi hN
  go_enter Try.func39, Try.ntmps39
  go_wp2
  clear f1 f2 f3 f4 f5 f6 f7 f8
  go_loopw [20, 21] (fun sv rv wr => ∃ (s r : Nat), sv = .int .i64 (s : Int) ∧ rv = .int .i64 (r : Int) ∧ lo ≤ s ∧ s ≤ r ∧ r ≤ hi ∧ Hid (∀ c u v, lo ≤ c → c < s → x[c - a]? = some u → y[mid - 1 - c]? = some v → lt v.key u.key = false) ∧ Hid (∀ c u v, r ≤ c → c < hi → x[c - a]? = some u → y[mid - 1 - c]? = some v → lt v.key u.key = true) ∧ Hid (Srt w0 g (A ++ (x ++ (y ++ B))) wr)) (fun sv rv _ => (intOf rv).toNat - (intOf sv).toNat)
  case atStart => exact ⟨lo, hi, by rw [HG2.out], by rw [HG.out], by omega, by omega, by omega, Lib.hid (by intro c u v h h2; omega), Lib.hid (by intro c u v h h2; omega), H0⟩
  case round =>
    obtain ⟨s, r, rfl, rfl, hls, hsr, hrh, H1, H2, HS⟩ := hrel
    clear H0
    by_cases hlt : s < r
    · have i0 : (s : Int) < (r : Int) := by omega
      obtain ⟨q, hq⟩ : ∃ q, q = (s + r) / 2 := ⟨_, rfl⟩
      have eq : ((s : Int) + (r : Int)) / 2 = (q : Int) := by omega
      have q1 : s ≤ q := by omega
      have q2 : q < r := by omega
      clear hq
      have hb := HB.out
      have hql : q - a < x.length := by omega
      have hqr : mid - 1 - q < y.length := by omega
      obtain ⟨u, hu⟩ : ∃ u, x[q - a]? = some u := ⟨_, List.getElem?_eq_getElem hql⟩
      obtain ⟨v, hv⟩ : ∃ v, y[mid - 1 - q]? = some v := ⟨_, List.getElem?_eq_getElem hqr⟩
      have HZ : Hid (x[q - a]? = some u ∧ y[mid - 1 - q]? = some v) := Lib.hid ⟨hu, hv⟩
      obtain ⟨pq, hpq⟩ : ∃ pq, pq = m + (mid - 1 - q) := ⟨_, rfl⟩
      have epq : (p : Int) - (q : Int) = (pq : Int) := by omega
      have HAt : Hid ((A ++ (x ++ (y ++ B)))[q]? = some u ∧ (A ++ (x ++ (y ++ B)))[pq]? = some v) := Lib.hid ⟨by
        have := get_part (A := A) (B := y ++ B) hu
        rwa [HA.out, show a + (q - a) = q by omega] at this, by
        have := get_part (A := A ++ x) (B := B) hv
        rw [show (A ++ x).length + (mid - 1 - q) = pq by simp; omega] at this
        simpa using this⟩
      have hpn : pq < n := by omega
      have hqn : q < n := by omega
      clear hu hv hql hqr hpq hb
      cases hl : lt v.key u.key with
      | false =>
        have hlt2 : decide (cmpE v u < 0) = false := by rw [cmpE_lt]; exact hl
        go_wp2_with fail
        refine FreeS.region_puts (S := fun _ W => Srt w0 g (A ++ (x ++ (y ++ B))) W) (sts := [])
          (tab := [(4, [.int .i64 (p : Int), .int .i64 (q : Int)], .int .i64 (pq : Int), .pure),
            (5, [.slice (some ⟨g, 0, none⟩) n cap, .int .i64 (pq : Int)], .pointer (some ⟨g, pq * 3, none⟩), .pure),
            (6, [.pointer (some ⟨g, pq * 3, none⟩)], (v).v, .read),
            (9, [.slice (some ⟨g, 0, none⟩) n cap, .int .i64 (q : Int)], .pointer (some ⟨g, q * 3, none⟩), .pure),
            (10, [.pointer (some ⟨g, q * 3, none⟩)], (u).v, .read),
            (11, [.func (.func 27) #[] #[], (v).v, (u).v], .int .i64 (cmpE v u), .call 27 [(v).v, (u).v]),
            (12, [.int .i64 (cmpE v u), .int .i64 0], .bool false, .pure)])
          (by kernel_rfl) ⟨by kernel_rfl, ⟨FreeS.d_bin _ rfl rfl (fun xo yo w => cmp_sub3 xo yo w epq (by omega) (by omega)),
            FreeS.d_at _ rfl rfl (fun w => at_25 _ _ _ _ (by omega) w),
            FreeS.d_load _ rfl rfl (fun w h => load_37 (h.at HR.out HLen.out HAt.out.2).1),
            FreeS.d_at _ rfl rfl (fun w => at_25 _ _ _ _ (by omega) w),
            FreeS.d_load _ rfl rfl (fun w h => load_37 (h.at HR.out HLen.out HAt.out.1).1),
            FreeS.d_call2 _ rfl rfl enter_27 (fun w h => closure_srt v u h),
            FreeS.d_bin _ rfl rfl (fun xo yo w => cmp_lss3 xo yo w hlt2),
            trivial⟩,
            by kernel_rfl, by kernel_rfl, by kernel_rfl⟩ HS.out.drew (Free.from_ 158 [.func (.func 27) #[] #[], .slice (some ⟨g, 0, none⟩) n cap, .int .i64 (p : Int), .int .i64 (q : Int), .int .i64 (pq : Int), .pointer (some ⟨g, pq * 3, none⟩), (v).v, .slice (some ⟨g, 0, none⟩) n cap, .int .i64 (q : Int), .pointer (some ⟨g, q * 3, none⟩), (u).v, .int .i64 (cmpE v u), .bool false, .bool true]) (by kernel_rfl) ?_
        intro w4 h4
        rw [Free.puts_from _ _ _ (Nat.le_of_ble_eq_true rfl)]
        simp only [List.take_succ_cons, List.take_zero, List.drop_succ_cons, List.drop_zero, List.cons_append, List.nil_append, List.length_cons, List.length_nil, Nat.reduceAdd]
        have HF := Lib.hid h4
        have H1n : Hid (∀ c u v, lo ≤ c → c < q + 1 → x[c - a]? = some u → y[mid - 1 - c]? = some v → lt v.key u.key = false) := Lib.hid (fun c u' v' h1 h2 h3 h4 => le_trans (le_trans (up_get HU.out.1 h3 HZ.out.1 (by omega)) hl) (up_get HU.out.2 HZ.out.2 h4 (by omega)))
        clear h4 hlt2 epq
        go_wp2
        go_roundw
        case rel => exact ⟨q + 1, r, by go_num, rfl, by omega, by omega, by omega, H1n, H2, HF⟩
        case measure => simp [intOf]; omega
      | true =>
        have hlt2 : decide (cmpE v u < 0) = true := by rw [cmpE_lt]; exact hl
        go_wp2_with fail
        refine FreeS.region_puts (S := fun _ W => Srt w0 g (A ++ (x ++ (y ++ B))) W) (sts := [])
          (tab := [(4, [.int .i64 (p : Int), .int .i64 (q : Int)], .int .i64 (pq : Int), .pure),
            (5, [.slice (some ⟨g, 0, none⟩) n cap, .int .i64 (pq : Int)], .pointer (some ⟨g, pq * 3, none⟩), .pure),
            (6, [.pointer (some ⟨g, pq * 3, none⟩)], (v).v, .read),
            (9, [.slice (some ⟨g, 0, none⟩) n cap, .int .i64 (q : Int)], .pointer (some ⟨g, q * 3, none⟩), .pure),
            (10, [.pointer (some ⟨g, q * 3, none⟩)], (u).v, .read),
            (11, [.func (.func 27) #[] #[], (v).v, (u).v], .int .i64 (cmpE v u), .call 27 [(v).v, (u).v]),
            (12, [.int .i64 (cmpE v u), .int .i64 0], .bool true, .pure)])
          (by kernel_rfl) ⟨by kernel_rfl, ⟨FreeS.d_bin _ rfl rfl (fun xo yo w => cmp_sub3 xo yo w epq (by omega) (by omega)),
            FreeS.d_at _ rfl rfl (fun w => at_25 _ _ _ _ (by omega) w),
            FreeS.d_load _ rfl rfl (fun w h => load_37 (h.at HR.out HLen.out HAt.out.2).1),
            FreeS.d_at _ rfl rfl (fun w => at_25 _ _ _ _ (by omega) w),
            FreeS.d_load _ rfl rfl (fun w h => load_37 (h.at HR.out HLen.out HAt.out.1).1),
            FreeS.d_call2 _ rfl rfl enter_27 (fun w h => closure_srt v u h),
            FreeS.d_bin _ rfl rfl (fun xo yo w => cmp_lss3 xo yo w hlt2),
            trivial⟩,
            by kernel_rfl, by kernel_rfl, by kernel_rfl⟩ HS.out.drew (Free.from_ 158 [.func (.func 27) #[] #[], .slice (some ⟨g, 0, none⟩) n cap, .int .i64 (p : Int), .int .i64 (q : Int), .int .i64 (pq : Int), .pointer (some ⟨g, pq * 3, none⟩), (v).v, .slice (some ⟨g, 0, none⟩) n cap, .int .i64 (q : Int), .pointer (some ⟨g, q * 3, none⟩), (u).v, .int .i64 (cmpE v u), .bool true, .bool false]) (by kernel_rfl) ?_
        intro w4 h4
        rw [Free.puts_from _ _ _ (Nat.le_of_ble_eq_true rfl)]
        simp only [List.take_succ_cons, List.take_zero, List.drop_succ_cons, List.drop_zero, List.cons_append, List.nil_append, List.length_cons, List.length_nil, Nat.reduceAdd]
        have HF := Lib.hid h4
        have H2n : Hid (∀ c u v, q ≤ c → c < hi → x[c - a]? = some u → y[mid - 1 - c]? = some v → lt v.key u.key = true) := Lib.hid (fun c u' v' h1 h2 h3 h4 => lt_le (le_lt (up_get HU.out.2 h4 HZ.out.2 (by omega)) hl) (up_get HU.out.1 HZ.out.1 h3 (by omega)))
        clear h4 hlt2 epq
        go_wp2
        go_roundw
        case rel => exact ⟨s, q, rfl, rfl, by omega, by omega, by omega, H1, H2n, HF⟩
        case measure => simp [intOf]; omega
    · have i0 : ¬ (s : Int) < (r : Int) := by omega
      obtain rfl : s = r := by omega
      have hb := HB.out
      obtain ⟨x1, hx1⟩ : ∃ x1, x1 = x.take (s - a) := ⟨_, rfl⟩
      obtain ⟨x2, hx2⟩ : ∃ x2, x2 = x.drop (s - a) := ⟨_, rfl⟩
      obtain ⟨y1, hy1⟩ : ∃ y1, y1 = y.take (mid - s) := ⟨_, rfl⟩
      obtain ⟨y2, hy2⟩ : ∃ y2, y2 = y.drop (mid - s) := ⟨_, rfl⟩
      obtain ⟨en, hen⟩ : ∃ en, en = m + (mid - s) := ⟨_, rfl⟩
      have een : (nn : Int) - (s : Int) = (en : Int) := by omega
      have een2 : (mid : Int) + (m : Int) - (s : Int) = (en : Int) := by omega
      have HX : Hid (x = x1 ++ x2 ∧ y = y1 ++ y2) := Lib.hid (by rw [hx1, hx2, hy1, hy2, List.take_append_drop, List.take_append_drop]; exact ⟨rfl, rfl⟩)
      have l1 : a + x1.length = s := by rw [hx1, List.length_take]; omega
      have l2 : s + x2.length = m := by rw [hx2, List.length_drop]; omega
      have l3 : s + y1.length = mid := by rw [hy1, List.length_take]; omega
      have l4 : m + y1.length = en := by rw [hy1, List.length_take]; omega
      have l5 : en + y2.length = b := by rw [hy2, List.length_drop]; omega
      have l6 : mid + x2.length = en := by omega
      have HM : Hid (sortL (x ++ y) = sortL (x1 ++ y1) ++ sortL (x2 ++ y2)) := Lib.hid (by
        have e1 : ∀ u ∈ y1, ∀ v ∈ x2, lt u.key v.key = true := by
          intro u hu v hv
          rw [hy1] at hu
          rw [hx2] at hv
          obtain ⟨t1, ht1, g1⟩ := mem_take_get hu
          obtain ⟨t2, ht2, g2⟩ := mem_drop_get hv
          have b2 := (List.getElem?_eq_some_iff.1 g2).1
          obtain ⟨u', hu'⟩ : ∃ u', y[mid - 1 - s]? = some u' := ⟨_, List.getElem?_eq_getElem (by omega)⟩
          obtain ⟨v', hv'⟩ : ∃ v', x[s - a]? = some v' := ⟨_, List.getElem?_eq_getElem (by omega)⟩
          exact lt_le (le_lt (up_get HU.out.2 g1 hu' (by omega)) (H2.out s v' u' (Nat.le_refl _) (by omega) hv' hu')) (up_get HU.out.1 hv' g2 (by omega))
        have e2 : ∀ u ∈ x1, ∀ v ∈ y2, lt v.key u.key = false := by
          intro u hu v hv
          rw [hx1] at hu
          rw [hy2] at hv
          obtain ⟨t1, ht1, g1⟩ := mem_take_get hu
          obtain ⟨t2, ht2, g2⟩ := mem_drop_get hv
          have b2 := (List.getElem?_eq_some_iff.1 g2).1
          obtain ⟨u', hu'⟩ : ∃ u', x[s - 1 - a]? = some u' := ⟨_, List.getElem?_eq_getElem (by omega)⟩
          obtain ⟨v', hv'⟩ : ∃ v', y[mid - 1 - (s - 1)]? = some v' := ⟨_, List.getElem?_eq_getElem (by omega)⟩
          exact le_trans (le_trans (up_get HU.out.1 g1 hu' (by omega)) (H1.out (s - 1) u' v' (by omega) (by omega) hu' hv')) (up_get HU.out.2 hv' g2 (by omega))
        have h3 := merge_parts (x1 := x1) (x2 := x2) (y1 := y1) (y2 := y2) (by rw [← HX.out.1]; exact HU.out.1) (by rw [← HX.out.2]; exact HU.out.2) e1 e2
        rw [HX.out.1, HX.out.2]
        exact h3)
      have HUU : Hid ((Up x1 ∧ Up x2) ∧ Up y1 ∧ Up y2) := Lib.hid (by
        have h1 := HU.out.1
        have h2 := HU.out.2
        rw [HX.out.1] at h1
        rw [HX.out.2] at h2
        obtain ⟨a1, a2, _⟩ := up_append.1 h1
        obtain ⟨b1, b2, _⟩ := up_append.1 h2
        exact ⟨⟨a1, a2⟩, b1, b2⟩)
      have HS1 : Hid (Srt w0 g (A ++ (x1 ++ (x2 ++ (y1 ++ (y2 ++ B))))) wr) := Lib.hid (by have := HS.out; rw [HX.out.1, HX.out.2] at this; simpa using this)
      have hBn : b + B.length = n := by omega
      have HN2 : Hid (x1.length + y1.length < N ∧ x2.length + y2.length < N) := Lib.hid (by omega)
      clear hx1 hx2 hy1 hy2 hen H1 H2 HS hb
      have HBL := Lib.hid hBn
      have hb := HB.out
      by_cases hQ : s < m
      · have d1 : (s : Int) < (m : Int) := by omega
        have d2 : (m : Int) < (en : Int) := by omega
        have HC := Lib.hid (rotate_any w0 g cap n s m en (A ++ x1) x2 y1 (y2 ++ B) wr HR.out (by have := HBL.out; have := HA.out; simp; omega) hsz (by have := HA.out; simp; omega) l2 l4 (by omega) (by omega) (by have := HS1.out; simpa using this))
        go_wp2_with fail
        refine HC.out.mono ?_
        rintro e w1 ⟨rfl, h1⟩
        have HF1 : Hid (Srt w0 g (A ++ (x1 ++ (y1 ++ (x2 ++ (y2 ++ B))))) w1) := Lib.hid (by simpa using h1)
        clear h1 HC
        have d4 : (s : Int) < (mid : Int) := by omega
        have d5 : (mid : Int) < (en : Int) := by omega
        by_cases c3 : a < s
        · have d3 : (a : Int) < (s : Int) := by omega
          have HC2 := Lib.hid (IH.out A x1 y1 (x2 ++ (y2 ++ B)) a s mid w1 HN2.out.1 (by omega) (by omega) (by have := HBL.out; have := HA.out; simp; omega) HA.out l1 l3 HUU.out.1.1 HUU.out.2.1 HF1.out)
          go_wp2_with fail
          refine HC2.out.mono ?_
          rintro e w2 ⟨rfl, h1⟩
          have HF2 := Lib.hid h1
          clear h1 HC2
          by_cases c6 : en < b
          · have d6 : (en : Int) < (b : Int) := by omega
            have HC3 := Lib.hid (IH.out (A ++ sortL (x1 ++ y1)) x2 y2 B mid en b w2 HN2.out.2 (by omega) (by omega) (by have := HBL.out; have := HA.out; simp [sort_length]; omega) (by have := HA.out; simp [sort_length]; omega) l6 l5 HUU.out.1.2 HUU.out.2.2 (by have := HF2.out; simpa using this))
            go_wp2_with fail
            refine HC3.out.mono ?_
            rintro e w3 ⟨rfl, h1⟩
            have HF : Hid (Srt w0 g (A ++ (sortL (x ++ y) ++ B)) w3) := Lib.hid (by rw [HM.out]; simpa using h1)
            clear h1 HC3
            go_wp2
            go_end0
            exact ⟨rfl, HF.out⟩
          · have d6 : ¬ (en : Int) < (b : Int) := by omega
            have HF : Hid (Srt w0 g (A ++ (sortL (x ++ y) ++ B)) w2) := Lib.hid (by
              have h2 : x2 = [] ∨ y2 = [] := by
                by_cases z : x2.length = 0
                · exact .inl (List.eq_nil_of_length_eq_zero z)
                · exact .inr (List.eq_nil_of_length_eq_zero (by omega))
              have h3 : sortL (x2 ++ y2) = x2 ++ y2 := by
                rcases h2 with rfl | rfl
                · exact sort_up HUU.out.2.2
                · rw [List.append_nil]; exact sort_up HUU.out.1.2
              have h1 := HF2.out
              rw [HM.out, h3]
              simpa using h1)
            go_wp2
            go_end0
            exact ⟨rfl, HF.out⟩
        · have d3 : ¬ (a : Int) < (s : Int) := by omega
          have HF2 : Hid (Srt w0 g (A ++ (sortL (x1 ++ y1) ++ (x2 ++ (y2 ++ B)))) w1) := Lib.hid (by
            have h1 := HF1.out
            have h2 : x1 = [] ∨ y1 = [] := by
              by_cases z : x1.length = 0
              · exact .inl (List.eq_nil_of_length_eq_zero z)
              · exact .inr (List.eq_nil_of_length_eq_zero (by omega))
            have h3 : sortL (x1 ++ y1) = x1 ++ y1 := by
              rcases h2 with rfl | rfl
              · exact sort_up HUU.out.2.1
              · rw [List.append_nil]; exact sort_up HUU.out.1.1
            rw [h3]
            simpa using h1)
          by_cases c6 : en < b
          · have d6 : (en : Int) < (b : Int) := by omega
            have HC3 := Lib.hid (IH.out (A ++ sortL (x1 ++ y1)) x2 y2 B mid en b w1 HN2.out.2 (by omega) (by omega) (by have := HBL.out; have := HA.out; simp [sort_length]; omega) (by have := HA.out; simp [sort_length]; omega) l6 l5 HUU.out.1.2 HUU.out.2.2 (by have := HF2.out; simpa using this))
            go_wp2_with fail
            refine HC3.out.mono ?_
            rintro e w3 ⟨rfl, h1⟩
            have HF : Hid (Srt w0 g (A ++ (sortL (x ++ y) ++ B)) w3) := Lib.hid (by rw [HM.out]; simpa using h1)
            clear h1 HC3
            go_wp2
            go_end0
            exact ⟨rfl, HF.out⟩
          · have d6 : ¬ (en : Int) < (b : Int) := by omega
            have HF : Hid (Srt w0 g (A ++ (sortL (x ++ y) ++ B)) w1) := Lib.hid (by
              have h2 : x2 = [] ∨ y2 = [] := by
                by_cases z : x2.length = 0
                · exact .inl (List.eq_nil_of_length_eq_zero z)
                · exact .inr (List.eq_nil_of_length_eq_zero (by omega))
              have h3 : sortL (x2 ++ y2) = x2 ++ y2 := by
                rcases h2 with rfl | rfl
                · exact sort_up HUU.out.2.2
                · rw [List.append_nil]; exact sort_up HUU.out.1.2
              have h1 := HF2.out
              rw [HM.out, h3]
              simpa using h1)
            go_wp2
            go_end0
            exact ⟨rfl, HF.out⟩
      · obtain rfl : s = m := by omega
        obtain rfl : en = mid := by omega
        clear een een2
        have e9 : (en : Int) + (s : Int) - (s : Int) = (en : Int) := by omega
        have d1 : ¬ (s : Int) < (s : Int) := by omega
        have d3 : (a : Int) < (s : Int) := by omega
        have d5 : ¬ (en : Int) < (en : Int) := by omega
        have HF1 : Hid (Srt w0 g (A ++ (x1 ++ (y1 ++ (x2 ++ (y2 ++ B))))) wr) := Lib.hid (by
          have h1 := HS1.out
          have h2 : x2 = [] ∨ y1 = [] := by
            by_cases z : x2.length = 0
            · exact .inl (List.eq_nil_of_length_eq_zero z)
            · exact .inr (List.eq_nil_of_length_eq_zero (by omega))
          rcases h2 with rfl | rfl <;> simpa using h1)
        by_cases hP : s < en
        · have d4 : (s : Int) < (en : Int) := by omega
          have HC2 := Lib.hid (IH.out A x1 y1 (x2 ++ (y2 ++ B)) a s en wr HN2.out.1 (by omega) (by omega) (by have := HBL.out; have := HA.out; simp; omega) HA.out l1 l3 HUU.out.1.1 HUU.out.2.1 HF1.out)
          go_wp2_with fail
          refine HC2.out.mono ?_
          rintro e w2 ⟨rfl, h1⟩
          have HF2 := Lib.hid h1
          clear h1 HC2
          have HF : Hid (Srt w0 g (A ++ (sortL (x ++ y) ++ B)) w2) := Lib.hid (by
            have h2 : x2 = [] ∨ y2 = [] := by
              by_cases z : x2.length = 0
              · exact .inl (List.eq_nil_of_length_eq_zero z)
              · exact .inr (List.eq_nil_of_length_eq_zero (by omega))
            have h3 : sortL (x2 ++ y2) = x2 ++ y2 := by
              rcases h2 with rfl | rfl
              · exact sort_up HUU.out.2.2
              · rw [List.append_nil]; exact sort_up HUU.out.1.2
            have h1 := HF2.out
            rw [HM.out, h3]
            simpa using h1)
          go_wp2
          go_end0
          exact ⟨rfl, HF.out⟩
        · have d4 : ¬ (s : Int) < (en : Int) := by omega
          have HF2 : Hid (Srt w0 g (A ++ (sortL (x1 ++ y1) ++ (x2 ++ (y2 ++ B)))) wr) := Lib.hid (by
            have h1 := HF1.out
            have h2 : x1 = [] ∨ y1 = [] := by
              by_cases z : x1.length = 0
              · exact .inl (List.eq_nil_of_length_eq_zero z)
              · exact .inr (List.eq_nil_of_length_eq_zero (by omega))
            have h3 : sortL (x1 ++ y1) = x1 ++ y1 := by
              rcases h2 with rfl | rfl
              · exact sort_up HUU.out.2.1
              · rw [List.append_nil]; exact sort_up HUU.out.1.1
            rw [h3]
            simpa using h1)
          have HF : Hid (Srt w0 g (A ++ (sortL (x ++ y) ++ B)) wr) := Lib.hid (by
            have h2 : x2 = [] ∨ y2 = [] := by
              by_cases z : x2.length = 0
              · exact .inl (List.eq_nil_of_length_eq_zero z)
              · exact .inr (List.eq_nil_of_length_eq_zero (by omega))
            have h3 : sortL (x2 ++ y2) = x2 ++ y2 := by
              rcases h2 with rfl | rfl
              · exact sort_up HUU.out.2.2
              · rw [List.append_nil]; exact sort_up HUU.out.1.2
            have h1 := HF2.out
            rw [HM.out, h3]
            simpa using h1)
          go_wp2
          go_end0
          exact ⟨rfl, HF.out⟩

end Go.Proofs.Ythglldnhffkefaa
