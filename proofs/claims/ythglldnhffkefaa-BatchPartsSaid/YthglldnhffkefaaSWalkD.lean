/- What swapRangeCmpFunc leaves of a row of entries: two parts as long as each other exchanged. Condition: the row has at most 2^40 entries. -/
import Derived.Test.YthglldnhffkefaaSWalkC
namespace Go.Proofs.Ythglldnhffkefaa
open Go.RowKit Go.Op Go.Sort
set_option maxRecDepth 100000

set_option maxHeartbeats 4000000 in
theorem swaprange_any (w0 : World) (g cap n a b k : Nat) (A u M v B : List En) (w : World) (R : Sow w0 g n) (hn : A.length + (u.length + (M.length + (v.length + B.length))) = n) (hsz : n ≤ 1099511627776) (ha : A.length = a) (hu : u.length = k) (hv : v.length = k) (hb : a + k + M.length = b)
    (h : Srt w0 g (A ++ (u ++ (M ++ (v ++ B)))) w) :
    Calls Try.prog 42 #[.slice (some ⟨g, 0, none⟩) n cap, .int .i64 (a : Int), .int .i64 (b : Int), .int .i64 (k : Int), .func (.func 27) #[] #[]] w fun e w' => e = .returned (.tuple #[]) ∧ Srt w0 g (A ++ (v ++ (M ++ (u ++ B)))) w' := by
  have H0 := Lib.hid h
  have HR := Lib.hid R
  clear h R
  go_enter Try.func42, Try.ntmps42
  go_wp2
  go_loopw [10] (fun iv wr => ∃ (i : Nat) (u1 u2 v1 v2 : List En), iv = .int .i64 (i : Int) ∧ u1.length = i ∧ v1.length = i ∧ i + u2.length = k ∧ i + v2.length = k ∧ Hid (u1 ++ u2 = u ∧ v1 ++ v2 = v) ∧ Hid (Srt w0 g (A ++ (v1 ++ (u2 ++ (M ++ (u1 ++ (v2 ++ B)))))) wr)) (fun iv _ => k - (intOf iv).toNat)
  case atStart => exact ⟨0, [], u, [], v, rfl, rfl, rfl, by omega, by omega, Lib.hid ⟨rfl, rfl⟩, H0⟩
  case round =>
    obtain ⟨i, u1, u2, v1, v2, rfl, hu1, hv1, hu2, hv2, HU, HS⟩ := hrel
    clear H0
    by_cases hlt : i < k
    · have i0 : (i : Int) < (k : Int) := by omega
      obtain ⟨x, u3, rfl⟩ : ∃ x u3, u2 = x :: u3 := by
        cases u2 with
        | nil => simp at hu2; omega
        | cons x r => exact ⟨x, r, rfl⟩
      obtain ⟨y, v3, rfl⟩ : ∃ y v3, v2 = y :: v3 := by
        cases v2 with
        | nil => simp at hv2; omega
        | cons x r => exact ⟨x, r, rfl⟩
      rw [List.length_cons] at hu2 hv2
      obtain ⟨i1, hi1⟩ : ∃ i1, i1 = a + i := ⟨_, rfl⟩
      obtain ⟨i2, hi2⟩ : ∃ i2, i2 = b + i := ⟨_, rfl⟩
      have e1 : (a : Int) + (i : Int) = (i1 : Int) := by omega
      have e2 : (b : Int) + (i : Int) = (i2 : Int) := by omega
      have hn1 : i1 < i2 := by omega
      have hn2 : i2 < n := by omega
      have HP : Hid ((A ++ v1).length = i1 ∧ (A ++ v1).length + 1 + (u3 ++ (M ++ u1)).length = i2) := Lib.hid (by simp; omega)
      have HS4 : Hid (Srt w0 g ((A ++ v1) ++ x :: ((u3 ++ (M ++ u1)) ++ y :: (v3 ++ B))) wr) := Lib.hid (by have := HS.out; simpa using this)
      have hlen : ((A ++ v1) ++ x :: ((u3 ++ (M ++ u1)) ++ y :: (v3 ++ B))).length = n := by simp; omega
      have X1 := HS4.out.drew.at HR.out hlen (i := i1) (x := x) (by rw [← HP.out.1]; exact get_mid _ _ _)
      have X2 := HS4.out.drew.at HR.out hlen (i := i2) (x := y) (by rw [← HP.out.2]; exact get_far _ _ _ _ _)
      have HF : Hid (Srt w0 g (A ++ ((v1 ++ [y]) ++ (u3 ++ (M ++ ((u1 ++ [x]) ++ (v3 ++ B)))))) (put3 (put3 wr.drew g i1 y) g i2 x)) := Lib.hid (by
        have h6 := (HS4.out.drew.swap HR.out).1
        rw [HP.out.2, HP.out.1] at h6
        simpa using h6)
      have HU2 : Hid ((u1 ++ [x]) ++ u3 = u ∧ (v1 ++ [y]) ++ v3 = v) := Lib.hid (by simpa using HU.out)
      clear HS HS4 HU HP hlen
      go_wp2_with fail
      refine FreeS.region_puts (S := three wr.drew (put3 wr.drew g i1 y) (put3 (put3 wr.drew g i1 y) g i2 x)) (sts := [21, 23])
        (tab := [(3, [.int .i64 (a : Int), .int .i64 (i : Int)], .int .i64 (i1 : Int), .pure),
          (7, [.int .i64 (b : Int), .int .i64 (i : Int)], .int .i64 (i2 : Int), .pure),
          (11, [.int .i64 (b : Int), .int .i64 (i : Int)], .int .i64 (i2 : Int), .pure),
          (12, [.slice (some ⟨g, 0, none⟩) n cap, .int .i64 (i2 : Int)], .pointer (some ⟨g, i2 * 3, none⟩), .pure),
          (13, [.pointer (some ⟨g, i2 * 3, none⟩)], (y).v, .read),
          (17, [.int .i64 (a : Int), .int .i64 (i : Int)], .int .i64 (i1 : Int), .pure),
          (18, [.slice (some ⟨g, 0, none⟩) n cap, .int .i64 (i1 : Int)], .pointer (some ⟨g, i1 * 3, none⟩), .pure),
          (19, [.pointer (some ⟨g, i1 * 3, none⟩)], (x).v, .read),
          (20, [.slice (some ⟨g, 0, none⟩) n cap, .int .i64 (i1 : Int)], .pointer (some ⟨g, i1 * 3, none⟩), .pure),
          (21, [.pointer (some ⟨g, i1 * 3, none⟩), (y).v], undef, .put 0),
          (22, [.slice (some ⟨g, 0, none⟩) n cap, .int .i64 (i2 : Int)], .pointer (some ⟨g, i2 * 3, none⟩), .pure),
          (23, [.pointer (some ⟨g, i2 * 3, none⟩), (x).v], undef, .put 1)])
        (by kernel_rfl) ⟨by kernel_rfl, ⟨FreeS.d_bin _ rfl rfl (fun xo yo w => cmp_add3 xo yo w e1 (by omega) (by omega)),
          FreeS.d_bin _ rfl rfl (fun xo yo w => cmp_add3 xo yo w e2 (by omega) (by omega)),
          FreeS.d_bin _ rfl rfl (fun xo yo w => cmp_add3 xo yo w e2 (by omega) (by omega)),
          FreeS.d_at _ rfl rfl (fun w => at_25 _ _ _ _ (by omega) w),
          FreeS.d_load _ rfl rfl (fun w h => (by rw [h]; exact load_37 X2.1)),
          FreeS.d_bin _ rfl rfl (fun xo yo w => cmp_add3 xo yo w e1 (by omega) (by omega)),
          FreeS.d_at _ rfl rfl (fun w => at_25 _ _ _ _ (by omega) w),
          FreeS.d_load _ rfl rfl (fun w h => (by rw [h]; exact load_37 X1.1)),
          FreeS.d_at _ rfl rfl (fun w => at_25 _ _ _ _ (by omega) w),
          FreeS.d_store _ rfl rfl (fun w h => (by rw [h]; exact ⟨_, store_37 y X1, rfl⟩)),
          FreeS.d_at _ rfl rfl (fun w => at_25 _ _ _ _ (by omega) w),
          FreeS.d_store _ rfl rfl (fun w h => (by rw [h]; exact ⟨_, store_37 x (at_put3 X2 (by omega)), rfl⟩)),
          trivial⟩,
          by kernel_rfl, by kernel_rfl, by kernel_rfl⟩ rfl (Free.from_ 16 [.slice (some ⟨g, 0, none⟩) n cap, .int .i64 (a : Int), .int .i64 (i : Int), .int .i64 (i1 : Int), .slice (some ⟨g, 0, none⟩) n cap, .int .i64 (b : Int), .int .i64 (i : Int), .int .i64 (i2 : Int), .slice (some ⟨g, 0, none⟩) n cap, .int .i64 (b : Int), .int .i64 (i : Int), .int .i64 (i2 : Int), .pointer (some ⟨g, i2 * 3, none⟩), (y).v, .slice (some ⟨g, 0, none⟩) n cap, .int .i64 (a : Int), .int .i64 (i : Int), .int .i64 (i1 : Int), .pointer (some ⟨g, i1 * 3, none⟩), (x).v, .pointer (some ⟨g, i1 * 3, none⟩), .pointer (some ⟨g, i2 * 3, none⟩)]) (by kernel_rfl) ?_
      intro w5 h5
      rw [Free.puts_from _ _ _ (Nat.le_of_ble_eq_true rfl)]
      simp only [List.take_succ_cons, List.take_zero, List.drop_succ_cons, List.drop_zero, List.cons_append, List.nil_append, List.length_cons, List.length_nil, Nat.reduceAdd]
      subst h5
      clear X1 X2 e1 e2 hi1 hi2
      generalize put3 (put3 wr.drew g i1 y) g i2 x = w6 at HF ⊢
      go_wp2
      go_roundw
      case rel => exact ⟨i + 1, u1 ++ [x], u3, v1 ++ [y], v3, by go_num, by simp [hu1], by simp [hv1], by omega, by omega, HU2, HF⟩
      case measure => simp [intOf]; omega
    · have i0 : ¬ (i : Int) < (k : Int) := by omega
      have HE : Hid (Srt w0 g (A ++ (v ++ (M ++ (u ++ B)))) wr) := Lib.hid (by
        have h2 : u2 = [] := List.eq_nil_of_length_eq_zero (by omega)
        have h3 : v2 = [] := List.eq_nil_of_length_eq_zero (by omega)
        have h4 := HS.out
        have h5 := HU.out
        subst h2 h3
        rw [List.append_nil, List.append_nil] at h5
        obtain ⟨rfl, rfl⟩ := h5
        simpa using h4)
      go_wp2
      go_end0
      exact ⟨rfl, HE.out⟩

end Go.Proofs.Ythglldnhffkefaa
