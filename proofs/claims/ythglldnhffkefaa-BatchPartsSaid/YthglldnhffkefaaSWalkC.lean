/- What insertionSortCmpFunc leaves of a part of a row of entries: that part sorted. Condition: the row has at most 2^40 entries. -/
import Derived.Test.YthglldnhffkefaaDGen
import Derived.Handy
namespace Go.Proofs.Ythglldnhffkefaa
open Go.RowKit Go.Op Go.Sort
set_option maxRecDepth 100000

theorem sort_take {x : List En} {c : Nat} (h : c < x.length) : sortL (x.take (c + 1)) = ins (sortL (x.take c)) x[c] := by
  rw [List.take_succ_eq_append_getElem h, sort_snoc]
theorem sort_one {x : List En} : sortL (x.take 1) = x.take 1 := by
  cases x with
  | nil => rfl
  | cons a l => simp [sortL, ins]
theorem closure_srt {w0 w : World} {g : Nat} {l : List En} (x y : En) (h : Srt w0 g l w) : Calls Try.prog 27 #[x.v, y.v] w fun e w' => e = .returned (.int .i64 (cmpE x y)) ∧ Srt w0 g l w' :=
  (closure_any x y w).mono fun _ _ h2 => by
    obtain ⟨he, q, os, hw⟩ := h2
    exact ⟨he, by rw [hw]; exact h.grown q os⟩
/-- The worlds ahead of two stores, between them, and behind both. -/
def three (a b c : World) : Nat → World → Prop
  | 0, w => w = a
  | 1, w => w = b
  | _ + 2, w => w = c
theorem at_put3 {w : World} {g i j : Nat} {s x : En} (h : EnAt w g (i * 3) s ∧ w.frozen? ⟨g, i * 3, none⟩ = false ∧ w.frozen? ⟨g, i * 3 + 1, none⟩ = false ∧ w.frozen? ⟨g, i * 3 + 2, none⟩ = false) (hn : i ≠ j) :
    EnAt (put3 w g j x) g (i * 3) s ∧ (put3 w g j x).frozen? ⟨g, i * 3, none⟩ = false ∧ (put3 w g j x).frozen? ⟨g, i * 3 + 1, none⟩ = false ∧ (put3 w g j x).frozen? ⟨g, i * 3 + 2, none⟩ = false := by
  obtain ⟨⟨c1, c2, c3⟩, f1, f2, f3⟩ := h
  have k : ∀ o, o / 3 = i → (put3 w g j x).cell? ⟨g, o, none⟩ = w.cell? ⟨g, o, none⟩ ∧ (put3 w g j x).frozen? ⟨g, o, none⟩ = w.frozen? ⟨g, o, none⟩ := fun o ho => by
    unfold put3
    refine ⟨?_, by rw [World.frozen?_setCell, World.frozen?_setCell, World.frozen?_setCell]⟩
    rw [World.cell?_setCell_other, World.cell?_setCell_other, World.cell?_setCell_other]
    all_goals
      intro e
      simp only [Addr.mk.injEq, and_true, true_and] at e
      omega
  refine ⟨⟨?_, ?_, ?_⟩, ?_, ?_, ?_⟩
  · rw [(k _ (by omega)).1]; exact c1
  · rw [(k _ (by omega)).1]; exact c2
  · rw [(k _ (by omega)).1]; exact c3
  · rw [(k _ (by omega)).2]; exact f1
  · rw [(k _ (by omega)).2]; exact f2
  · rw [(k _ (by omega)).2]; exact f3

set_option maxHeartbeats 4000000 in
theorem insertion_any (w0 : World) (g cap n a b : Nat) (A x B : List En) (w : World) (R : Sow w0 g n) (hn : A.length + (x.length + B.length) = n) (hsz : n ≤ 1099511627776) (ha : A.length = a) (hb : a + x.length = b) (h : Srt w0 g (A ++ (x ++ B)) w) :
    Calls Try.prog 38 #[.slice (some ⟨g, 0, none⟩) n cap, .int .i64 (a : Int), .int .i64 (b : Int), .func (.func 27) #[] #[]] w fun e w' => e = .returned (.tuple #[]) ∧ Srt w0 g (A ++ (sortL x ++ B)) w' := by
  have H0 : Hid (Srt w0 g (A ++ (sortL (x.take 1) ++ (x.drop 1 ++ B))) w) := Lib.hid (by rw [sort_one, ← List.append_assoc (x.take 1), List.take_append_drop]; exact h)
  have HR := Lib.hid R
  clear h R
  go_enter Try.func38, Try.ntmps38
  go_wp2
  go_loopw [8] (fun iv wr => ∃ c : Nat, iv = .int .i64 ((a + c : Nat) : Int) ∧ 1 ≤ c ∧ c ≤ x.length + 1 ∧ Hid (Srt w0 g (A ++ (sortL (x.take c) ++ (x.drop c ++ B))) wr)) (fun iv _ => b + 1 - (intOf iv).toNat)
  case atStart => exact ⟨1, by go_num, by omega, by omega, H0⟩
  case round =>
    obtain ⟨c, rfl, hc1, hc2, HS⟩ := hrel
    by_cases hlt : c < x.length
    · have i1 : ((a + c : Nat) : Int) < (b : Int) := by omega
      obtain ⟨wo, hwo⟩ : ∃ wo, wo = wr := ⟨_, rfl⟩
      subst hwo
      have HN := Lib.hid (sort_take hlt)
      have HD : Hid (x.drop c = x[c] :: x.drop (c + 1)) := Lib.hid (List.drop_eq_getElem_cons hlt)
      have HL : Hid ((x.drop (c + 1)).length = x.length - (c + 1)) := Lib.hid (by rw [List.length_drop])
      have HU := Lib.hid (up_sort (x.take c))
      have HSL : Hid ((sortL (x.take c)).length = c) := Lib.hid (by rw [sort_length, List.length_take]; omega)
      generalize x[c] = e at HN HD
      generalize hDd : x.drop (c + 1) = D at HD HL
      have HDd := Lib.hid hDd
      clear hDd
      generalize sortL (x.take c) = S at HN HS HU HSL
      have HS2 : Hid (Srt w0 g (A ++ (S ++ (e :: (D ++ B)))) wo) := Lib.hid (by have := HS.out; rwa [HD.out] at this)
      go_wp2
      go_loopw [9] (fun jv wr => ∃ (s1 s2 : List En), jv = .int .i64 ((a + s1.length : Nat) : Int) ∧ Hid (s1 ++ s2 = S) ∧ s1.length + s2.length = c ∧ Hid (∀ z ∈ s2, lt e.key z.key = true) ∧ Hid (Srt w0 g (A ++ (s1 ++ (e :: (s2 ++ (D ++ B))))) wr)) (fun jv _ => (intOf jv).toNat)
      case atStart => exact ⟨S, [], by rw [HSL.out], Lib.hid (by simp), by simpa using HSL.out, Lib.hid (by simp), HS2⟩
      case round =>
        obtain ⟨s1, s2, rfl, H12, hl12, HG, HS3⟩ := hrel
        clear HS HS2
        rcases List.eq_nil_or_concat s1 with rfl | ⟨t, p, rfl⟩
        · have g0 : decide ((a : Int) < (a : Int)) = false := decide_eq_false (by omega)
          have HSn : Hid (∀ W, Srt w0 g (A ++ ([] ++ (e :: (s2 ++ (D ++ B))))) W → Srt w0 g (A ++ (sortL (x.take (c + 1)) ++ (D ++ B))) W) := Lib.hid (fun W hW => by
            rw [HN.out, ← H12.out, ins_at HG.out (by simp) (by rw [H12.out]; exact HU.out)]
            simpa using hW)
          simp only [List.length_nil, Nat.add_zero]
          go_wp2_with fail
          refine FreeS.region_puts (S := fun _ W => Srt w0 g (A ++ ([] ++ (e :: (s2 ++ (D ++ B))))) W) (sts := [])
            (tab := [(2, [.int .i64 (a : Int), .int .i64 (a : Int)], .bool false, .pure)])
            (by kernel_rfl) ⟨by kernel_rfl, ⟨FreeS.d_bin _ rfl rfl (fun xo yo w => cmp_gtr3 xo yo w g0),
              trivial⟩,
              by kernel_rfl, by kernel_rfl, by kernel_rfl⟩ HS3.out.drew (Free.from_ 18 [.int .i64 (a : Int), .int .i64 (a : Int), .bool false, .bool false, undef, undef, undef, undef, undef, undef, undef, undef, undef, undef, undef, undef, .bool false]) (by kernel_rfl) ?_
          intro w4 h4
          rw [Free.puts_from _ _ _ (Nat.le_of_ble_eq_true rfl)]
          simp only [List.take_succ_cons, List.take_zero, List.drop_succ_cons, List.drop_zero, List.cons_append, List.nil_append, List.length_cons, List.length_nil, Nat.reduceAdd]
          have HF := Lib.hid (HSn.out _ h4)
          clear h4 g0
          go_wp2
          go_roundw
          case rel => exact ⟨c + 1, by go_num, by omega, by omega, Lib.hid (by rw [HDd.out]; exact HF.out)⟩
          case measure => simp [intOf]; omega
        · obtain ⟨Q, hQ⟩ : ∃ Q, Q = a + t.length := ⟨_, rfl⟩
          obtain ⟨J, hJ⟩ : ∃ J, J = Q + 1 := ⟨_, rfl⟩
          have hJ2 : a + (t ++ [p]).length = J := by simp; omega
          rw [List.concat_eq_append] at hl12 H12 HS3 ⊢
          rw [hJ2]
          have hJn : J < n := by simp at hl12; omega
          have HJP : Hid ((A ++ t).length + 1 + ([] : List En).length = J ∧ (A ++ t).length = Q) := Lib.hid (by simp; omega)
          have HS4 : Hid (Srt w0 g ((A ++ t) ++ p :: ([] ++ e :: (s2 ++ (D ++ B)))) wr) := Lib.hid (by have := HS3.out; simpa using this)
          have HLen : Hid (((A ++ t) ++ p :: ([] ++ e :: (s2 ++ (D ++ B)))).length = n) := Lib.hid (by have := HL.out; simp at hl12 ⊢; omega)
          have HatP : Hid (((A ++ t) ++ p :: ([] ++ e :: (s2 ++ (D ++ B))))[Q]? = some p) := Lib.hid (by rw [← HJP.out.2]; exact get_mid _ _ _)
          have HatJ : Hid (((A ++ t) ++ p :: ([] ++ e :: (s2 ++ (D ++ B))))[J]? = some e) := Lib.hid (by rw [← HJP.out.1]; exact get_far _ _ _ _ _)
          have gJ : decide ((a : Int) < (J : Int)) = true := decide_eq_true (by omega)
          have ejp : (J : Int) - 1 = (Q : Int) := by omega
          have HQ := Lib.hid (show Q = a + t.length ∧ J = Q + 1 from ⟨hQ, hJ⟩)
          clear HS3 hJ2 hQ
          cases hl : lt e.key p.key with
          | true =>
            have hlt : decide (cmpE e p < 0) = true := by rw [cmpE_lt]; exact hl
            go_wp2_with fail
            refine FreeS.region_puts (S := fun _ W => Srt w0 g ((A ++ t) ++ p :: ([] ++ e :: (s2 ++ (D ++ B)))) W) (sts := [])
              (tab := [(2, [.int .i64 (J : Int), .int .i64 (a : Int)], .bool true, .pure),
                (7, [.slice (some ⟨g, 0, none⟩) n cap, .int .i64 (J : Int)], .pointer (some ⟨g, J * 3, none⟩), .pure),
                (8, [.pointer (some ⟨g, J * 3, none⟩)], (e).v, .read),
                (11, [.int .i64 (J : Int), .int .i64 1], .int .i64 (Q : Int), .pure),
                (12, [.slice (some ⟨g, 0, none⟩) n cap, .int .i64 (Q : Int)], .pointer (some ⟨g, Q * 3, none⟩), .pure),
                (13, [.pointer (some ⟨g, Q * 3, none⟩)], (p).v, .read),
                (14, [.func (.func 27) #[] #[], (e).v, (p).v], .int .i64 (cmpE e p), .call 27 [(e).v, (p).v]),
                (15, [.int .i64 (cmpE e p), .int .i64 0], .bool true, .pure)])
              (by kernel_rfl) ⟨by kernel_rfl, ⟨FreeS.d_bin _ rfl rfl (fun xo yo w => cmp_gtr3 xo yo w gJ),
                FreeS.d_at _ rfl rfl (fun w => at_25 _ _ _ _ (by omega) w),
                FreeS.d_load _ rfl rfl (fun w h => load_37 (h.at HR.out HLen.out HatJ.out).1),
                FreeS.d_bin _ rfl rfl (fun xo yo w => cmp_sub3 xo yo w ejp (by omega) (by omega)),
                FreeS.d_at _ rfl rfl (fun w => at_25 _ _ _ _ (by omega) w),
                FreeS.d_load _ rfl rfl (fun w h => load_37 (h.at HR.out HLen.out HatP.out).1),
                FreeS.d_call2 _ rfl rfl enter_27 (fun w h => closure_srt e p h),
                FreeS.d_bin _ rfl rfl (fun xo yo w => cmp_lss3 xo yo w hlt),
                trivial⟩,
                by kernel_rfl, by kernel_rfl, by kernel_rfl⟩ HS4.out.drew (Free.from_ 18 [.int .i64 (J : Int), .int .i64 (a : Int), .bool true, .bool true, .func (.func 27) #[] #[], .slice (some ⟨g, 0, none⟩) n cap, .int .i64 (J : Int), .pointer (some ⟨g, J * 3, none⟩), (e).v, .slice (some ⟨g, 0, none⟩) n cap, .int .i64 (J : Int), .int .i64 (Q : Int), .pointer (some ⟨g, Q * 3, none⟩), (p).v, .int .i64 (cmpE e p), .bool true, .bool true]) (by kernel_rfl) ?_
            intro w4 h4
            rw [Free.puts_from _ _ _ (Nat.le_of_ble_eq_true rfl)]
            simp only [List.take_succ_cons, List.take_zero, List.drop_succ_cons, List.drop_zero, List.cons_append, List.nil_append, List.length_cons, List.length_nil, Nat.reduceAdd]
            go_wp2_with fail
            have X := fun i s (hi : ((A ++ t) ++ p :: ([] ++ e :: (s2 ++ (D ++ B))))[i]? = some s) => h4.drew.at HR.out HLen.out hi
            have XP := X Q p HatP.out
            have XJ := X J e HatJ.out
            have HF : Hid (Srt w0 g (A ++ (t ++ (e :: (p :: s2 ++ (D ++ B))))) (put3 (put3 w4.drew g J p) g Q e)) := Lib.hid (by
              have h6 := (h4.drew.swap HR.out).2
              rw [HJP.out.1, HJP.out.2] at h6
              simpa using h6)
            clear X h4
            refine FreeS.region_puts (S := three w4.drew (put3 w4.drew g J p) (put3 (put3 w4.drew g J p) g Q e)) (sts := [15, 17])
              (tab := [(4, [.int .i64 (J : Int), .int .i64 1], .int .i64 (Q : Int), .pure),
                (7, [.int .i64 (J : Int), .int .i64 1], .int .i64 (Q : Int), .pure),
                (8, [.slice (some ⟨g, 0, none⟩) n cap, .int .i64 (Q : Int)], .pointer (some ⟨g, Q * 3, none⟩), .pure),
                (9, [.pointer (some ⟨g, Q * 3, none⟩)], (p).v, .read),
                (12, [.slice (some ⟨g, 0, none⟩) n cap, .int .i64 (J : Int)], .pointer (some ⟨g, J * 3, none⟩), .pure),
                (13, [.pointer (some ⟨g, J * 3, none⟩)], (e).v, .read),
                (14, [.slice (some ⟨g, 0, none⟩) n cap, .int .i64 (J : Int)], .pointer (some ⟨g, J * 3, none⟩), .pure),
                (15, [.pointer (some ⟨g, J * 3, none⟩), (p).v], undef, .put 0),
                (16, [.slice (some ⟨g, 0, none⟩) n cap, .int .i64 (Q : Int)], .pointer (some ⟨g, Q * 3, none⟩), .pure),
                (17, [.pointer (some ⟨g, Q * 3, none⟩), (e).v], undef, .put 1)])
              (by kernel_rfl) ⟨by kernel_rfl, ⟨FreeS.d_bin _ rfl rfl (fun xo yo w => cmp_sub3 xo yo w ejp (by omega) (by omega)),
                FreeS.d_bin _ rfl rfl (fun xo yo w => cmp_sub3 xo yo w ejp (by omega) (by omega)),
                FreeS.d_at _ rfl rfl (fun w => at_25 _ _ _ _ (by omega) w),
                FreeS.d_load _ rfl rfl (fun w h => (by rw [h]; exact load_37 XP.1)),
                FreeS.d_at _ rfl rfl (fun w => at_25 _ _ _ _ (by omega) w),
                FreeS.d_load _ rfl rfl (fun w h => (by rw [h]; exact load_37 XJ.1)),
                FreeS.d_at _ rfl rfl (fun w => at_25 _ _ _ _ (by omega) w),
                FreeS.d_store _ rfl rfl (fun w h => (by rw [h]; exact ⟨_, store_37 p XJ, rfl⟩)),
                FreeS.d_at _ rfl rfl (fun w => at_25 _ _ _ _ (by omega) w),
                FreeS.d_store _ rfl rfl (fun w h => (by rw [h]; exact ⟨_, store_37 e (at_put3 XP (by omega)), rfl⟩)),
                trivial⟩,
                by kernel_rfl, by kernel_rfl, by kernel_rfl⟩ rfl (Free.from_ 37 [.slice (some ⟨g, 0, none⟩) n cap, .int .i64 (J : Int), .slice (some ⟨g, 0, none⟩) n cap, .int .i64 (J : Int), .int .i64 (Q : Int), .slice (some ⟨g, 0, none⟩) n cap, .int .i64 (J : Int), .int .i64 (Q : Int), .pointer (some ⟨g, Q * 3, none⟩), (p).v, .slice (some ⟨g, 0, none⟩) n cap, .int .i64 (J : Int), .pointer (some ⟨g, J * 3, none⟩), (e).v, .pointer (some ⟨g, J * 3, none⟩), .pointer (some ⟨g, Q * 3, none⟩)]) (by kernel_rfl) ?_
            intro w5 h5
            rw [Free.puts_from _ _ _ (Nat.le_of_ble_eq_true rfl)]
            simp only [List.take_succ_cons, List.take_zero, List.drop_succ_cons, List.drop_zero, List.cons_append, List.nil_append, List.length_cons, List.length_nil, Nat.reduceAdd]
            subst h5
            clear XP XJ hlt gJ
            generalize put3 (put3 w4.drew g J p) g Q e = w6 at HF ⊢
            go_wp2
            go_roundw
            case rel => exact ⟨t, p :: s2, by rw [← HQ.out.1], Lib.hid (by have := H12.out; simpa using this), by simp at hl12 ⊢; omega, Lib.hid (fun z hz => by
              rcases List.mem_cons.1 hz with rfl | hz
              · exact hl
              · exact HG.out z hz), HF⟩
            case measure => simp [intOf]; omega
          | false =>
            have hlt : decide (cmpE e p < 0) = false := by rw [cmpE_lt]; exact hl
            go_wp2_with fail
            refine FreeS.region_puts (S := fun _ W => Srt w0 g ((A ++ t) ++ p :: ([] ++ e :: (s2 ++ (D ++ B)))) W) (sts := [])
              (tab := [(2, [.int .i64 (J : Int), .int .i64 (a : Int)], .bool true, .pure),
                (7, [.slice (some ⟨g, 0, none⟩) n cap, .int .i64 (J : Int)], .pointer (some ⟨g, J * 3, none⟩), .pure),
                (8, [.pointer (some ⟨g, J * 3, none⟩)], (e).v, .read),
                (11, [.int .i64 (J : Int), .int .i64 1], .int .i64 (Q : Int), .pure),
                (12, [.slice (some ⟨g, 0, none⟩) n cap, .int .i64 (Q : Int)], .pointer (some ⟨g, Q * 3, none⟩), .pure),
                (13, [.pointer (some ⟨g, Q * 3, none⟩)], (p).v, .read),
                (14, [.func (.func 27) #[] #[], (e).v, (p).v], .int .i64 (cmpE e p), .call 27 [(e).v, (p).v]),
                (15, [.int .i64 (cmpE e p), .int .i64 0], .bool false, .pure)])
              (by kernel_rfl) ⟨by kernel_rfl, ⟨FreeS.d_bin _ rfl rfl (fun xo yo w => cmp_gtr3 xo yo w gJ),
                FreeS.d_at _ rfl rfl (fun w => at_25 _ _ _ _ (by omega) w),
                FreeS.d_load _ rfl rfl (fun w h => load_37 (h.at HR.out HLen.out HatJ.out).1),
                FreeS.d_bin _ rfl rfl (fun xo yo w => cmp_sub3 xo yo w ejp (by omega) (by omega)),
                FreeS.d_at _ rfl rfl (fun w => at_25 _ _ _ _ (by omega) w),
                FreeS.d_load _ rfl rfl (fun w h => load_37 (h.at HR.out HLen.out HatP.out).1),
                FreeS.d_call2 _ rfl rfl enter_27 (fun w h => closure_srt e p h),
                FreeS.d_bin _ rfl rfl (fun xo yo w => cmp_lss3 xo yo w hlt),
                trivial⟩,
                by kernel_rfl, by kernel_rfl, by kernel_rfl⟩ HS4.out.drew (Free.from_ 18 [.int .i64 (J : Int), .int .i64 (a : Int), .bool true, .bool true, .func (.func 27) #[] #[], .slice (some ⟨g, 0, none⟩) n cap, .int .i64 (J : Int), .pointer (some ⟨g, J * 3, none⟩), (e).v, .slice (some ⟨g, 0, none⟩) n cap, .int .i64 (J : Int), .int .i64 (Q : Int), .pointer (some ⟨g, Q * 3, none⟩), (p).v, .int .i64 (cmpE e p), .bool false, .bool false]) (by kernel_rfl) ?_
            intro w4 h4
            rw [Free.puts_from _ _ _ (Nat.le_of_ble_eq_true rfl)]
            simp only [List.take_succ_cons, List.take_zero, List.drop_succ_cons, List.drop_zero, List.cons_append, List.nil_append, List.length_cons, List.length_nil, Nat.reduceAdd]
            have HF : Hid (Srt w0 g (A ++ (sortL (x.take (c + 1)) ++ (D ++ B))) w4) := Lib.hid (by
              rw [HN.out, ← H12.out, ins_at HG.out (by intro z hz; simp at hz; rw [← hz]; exact hl) (by rw [H12.out]; exact HU.out)]
              simpa using h4)
            clear h4 hlt gJ
            go_wp2
            go_roundw
            case rel => exact ⟨c + 1, by go_num, by omega, by omega, Lib.hid (by rw [HDd.out]; exact HF.out)⟩
            case measure => simp [intOf]; omega
    · have i1 : ¬ ((a + c : Nat) : Int) < (b : Int) := by omega
      have HE : Hid (Srt w0 g (A ++ (sortL x ++ B)) wr) := Lib.hid (by
        have := HS.out
        rw [List.take_of_length_le (by omega), List.drop_eq_nil_of_le (by omega)] at this
        exact this)
      go_wp2
      go_end0
      exact ⟨rfl, HE.out⟩
end Go.Proofs.Ythglldnhffkefaa
