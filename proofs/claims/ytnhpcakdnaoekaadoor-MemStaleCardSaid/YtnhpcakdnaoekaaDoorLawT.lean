/- MemStale's law: at any byte and any acts it answers true. Conditions: the acts can be read; the library's table stands. -/
import Derived.Test.YtnhpcakdnaoekaaDoorLawS
namespace Go.Proofs.YtnhpcakdnaoekaaDoor
open Go.RowKit Go.Op
set_option maxRecDepth 100000

set_option maxHeartbeats 8000000 in
theorem stale_law (n : Nat) (hn8 : n ≤ 255) (a : Option Addr) (l : List Ac) (cap : Nat) (w : World) (hT : TabAt w) (hL : Acts w a l) (hO : ActsOk l) :
    Calls Tryd.prog 4 #[.int .u8 (n : Int), .slice a l.length cap] w fun e w' => e = .returned (.bool true) ∧ Below w.heap.size w w' := by
  have haw := fun w2 h2 => awake_any w2 (hT.below (w' := w2) h2)
  have HT := Lib.hid hT
  have HL := Lib.hid hL
  have HO := Lib.hid hO
  clear hL hO hT
  by_cases hlen : l.length ≤ 200
  · have h1 : (l.length : Int) ≤ 200 := by omega
    go_enter Tryd.func4, Tryd.ntmps4
    go_wp2_with fail
    refine (haw _ (Below.refl _ _)).mono ?_
    rintro e w1 ⟨rfl, b1⟩
    have hn := has_new (1 + n % 40) (by omega) (by omega) b1
    rw [show ((1 + n % 40 : Nat) : Int) = 1 + (n : Int) % 40 by omega] at hn
    clear haw
    go_wp2_with fail
    refine hn.mono ?_
    rintro e w2 ⟨b, c, r, rfl, hH⟩
    obtain ⟨B, hB, hw2, hsz⟩ : ∃ B, (b < B ∧ c < B ∧ r < B) ∧ w.heap.size ≤ B ∧ B = w2.heap.size := ⟨_, ⟨hH.at_.own.lb, hH.at_.own.lc, hH.at_.own.lr⟩, hH.below.size, rfl⟩
    have HH : Hid (Stl w b c r B 0 w2 (M.new (1 + n % 40)) [] [] (.slice none 0 0) (.slice none 0 0)) := ⟨hH, fresh_new _, OwnI.nil _ _, OwnI.nil _ _, .inl rfl, by omega⟩
    have HBB := Lib.hid hB
    clear hH hn b1 hsz
    go_wp2_with fail
    go_loopw [7, 8, 9] (fun tv gv iv wr => ∃ (i : Nat) (m : M) (told gone : List Int) (ta : Option Addr) (tc : Nat) (ga : Option Addr) (gc : Nat), i ≤ l.length ∧ tv = .slice ta told.length tc ∧ gv = .slice ga gone.length gc ∧ iv = .int .i64 (i : Int) ∧ told.length ≤ i ∧ gone.length ≤ i ∧ Hid (Stl w b c r B (1000 * i) wr m told gone (.slice ta told.length tc) (.slice ga gone.length gc))) (fun _ _ iv _ => l.length - (intOf iv).toNat)
    case atStart => exact ⟨0, _, [], [], none, 0, none, 0, by omega, rfl, rfl, rfl, by simp, by simp, HH.out⟩
    case round =>
      obtain ⟨i, m, told, gone, ta, tc, ga, gc, hi, rfl, rfl, rfl, hti, hgi, hR⟩ := hrel
      clear HH
      obtain ⟨wo, hwo⟩ : ∃ wo, wo = wr := ⟨_, rfl⟩
      subst hwo
      by_cases hlt : i < l.length
      · have i1 : (i : Int) < (l.length : Int) := by omega
        obtain ⟨pb, off, ea, k0, k1, k2, k3, k4⟩ := HL.out.at hR.out.has.below hlt
        obtain ⟨g0, g1, ⟨gp0, gp1⟩, _⟩ := HO.out _ (List.getElem_mem hlt)
        subst ea
        generalize l[i] = z at *
        obtain ⟨W, hW⟩ : ∃ W, W = wo.alloc (.cells #[.int .u8 z.act, .int .i64 z.pos, .int .i64 z.n, .int .i64 z.m, .bool z.raw] 37) := ⟨_, rfl⟩
        obtain ⟨_, hM, ⟨q0, q1, q2, q3, q4⟩, hbW⟩ := own_act hR.out.has z W hW
        have hS := Lib.hid (hR.out.later hbW)
        have HW := Lib.hid hW
        have HRT := Lib.hid hR.out.t
        clear hR hW hbW
        by_cases hdo : z.act % 9 ≤ 1
        · have hdo2 : decide (z.act % 9 ≤ 1) = true := decide_eq_true hdo
          have hc1 := hS.out.has.allocword HT.out (by omega) z.n
          rcases hS.out.fresh.alloc hS.out.has.ok z.n with ⟨e1, f1⟩ | ⟨nh, e1, hne, f1⟩
          · rw [e1] at hc1
            simp only at hc1
            have F1 := Lib.hid f1
            clear e1 f1
            go_wp2_with fail
            rw [← HW.out]
            refine hc1.mono ?_
            rintro e w5 ⟨rfl, h5, hk5⟩
            have S5 := Lib.hid (hS.out.step h5 hk5 F1.out HBB.out)
            clear hc1 hS h5 hk5 F1 q0 q1 q2 q3 q4 k0 k1 k2 k3 k4
            go_wp2_with fail
            go_loop [13] (fun jv => ∃ j : Nat, j ≤ told.length ∧ jv = .int .i64 (j : Int)) (fun jv => told.length - (intOf jv).toNat)
            case atStart => exact ⟨0, by omega, rfl⟩
            case round =>
              obtain ⟨j, hj, rfl⟩ := hrel
              by_cases hlt3 : j < told.length
              · have i3 : (j : Int) < (told.length : Int) := by omega
                go_wp2_with fail
                go_round
                case rel => exact ⟨j + 1, by omega, by go_num⟩
                case measure => simp [intOf]; omega
              · have i3 : ¬ (j : Int) < (told.length : Int) := by omega
                go_wp2_with fail
                go_loopw [15] (fun kv wr => ∃ (k : Nat) (m : M), k ≤ gone.length ∧ kv = .int .i64 (k : Int) ∧ Hid (Stl w b c r B (1000 * i + 1 + 4 * k) wr m told gone (.slice ta told.length tc) (.slice ga gone.length gc))) (fun kv _ => gone.length - (intOf kv).toNat)
                case atStart => exact ⟨0, _, by omega, rfl, S5.out.less (by omega)⟩
                case round =>
                  obtain ⟨k, m5, hk, rfl, hR5⟩ := hrel
                  clear S5
                  obtain ⟨wq, hwq⟩ : ∃ wq, wq = wr := ⟨_, rfl⟩
                  subst hwq
                  by_cases hlt5 : k < gone.length
                  · have i5 : (k : Int) < (gone.length : Int) := by omega
                    obtain ⟨gg, eg, q0⟩ := own_at hR5.out.g rfl hlt5
                    have hq : Hid (∀ W, OwnI W B (.slice ga gone.length gc) gone → W.cell? ⟨gg, k, none⟩ = some (.int .i64 ((gone).getD k 0))) := fun W hW => by
                      obtain ⟨g', eg', q'⟩ := own_at hW rfl hlt5
                      rw [eg] at eg'
                      cases eg'
                      exact q'
                    have hmem : (gone).getD k 0 ∈ (gone) := by
                      have hkl : k < (gone).length := hlt5
                      rw [List.getD_eq_getElem?_getD, List.getElem?_eq_getElem hkl]
                      exact List.getElem_mem hkl
                    obtain ⟨c1, _, _, _, f1⟩ := hR5.out.fresh.calls hmem
                    obtain ⟨_, c2, _, _, f2⟩ := f1.calls hmem
                    obtain ⟨_, _, c3, _, f3⟩ := f2.calls hmem
                    obtain ⟨_, _, _, c4, f4⟩ := f3.calls hmem
                    generalize (gone).getD k 0 = z at *
                    have hc1 := hR5.out.has.word (by omega) z
                    rw [c1] at hc1
                    simp only at hc1
                    have HF2 := Lib.hid (⟨f1, f2, f3, f4⟩ : _ ∧ _ ∧ _ ∧ _)
                    subst eg
                    clear c1 f1 f2 f3 f4 hmem
                    go_wp2_with fail
                    refine hc1.mono ?_
                    rintro e x1 ⟨rfl, g1, kk1⟩
                    have S1 := Lib.hid (hR5.out.step g1 kk1 HF2.out.1 HBB.out)
                    have q1 := hq.out _ S1.out.g
                    have hc2 := S1.out.has.swap (by omega) z 0 1
                    rw [c2] at hc2
                    simp only at hc2
                    clear hc1 q0 hR5 g1 kk1 c2
                    go_wp2_with fail
                    refine hc2.mono ?_
                    rintro e x2 ⟨rfl, g2, kk2⟩
                    have S2 := Lib.hid (S1.out.step g2 kk2 HF2.out.2.1 HBB.out)
                    have q2 := hq.out _ S2.out.g
                    have hc3 := S2.out.has.free (by omega) z
                    rw [c3] at hc3
                    clear hc2 q1 S1 g2 kk2 c3
                    go_wp2_with fail
                    refine hc3.mono ?_
                    rintro e x3 ⟨rfl, g3, kk3⟩
                    have S3 := Lib.hid (S2.out.step g3 kk3 HF2.out.2.2.1 HBB.out)
                    have q3 := hq.out _ S3.out.g
                    have hc4 := S3.out.has.retire (by omega) z 1
                    rw [c4] at hc4
                    clear hc3 q2 S2 g3 kk3 c4
                    go_wp2_with fail
                    refine hc4.mono ?_
                    rintro e x4 ⟨rfl, g4, kk4⟩
                    have S4 := Lib.hid (S3.out.step g4 kk4 HF2.out.2.2.2 HBB.out)
                    clear hc4 q3 S3 g4 kk4 HF2
                    go_wp2_with fail
                    go_roundw
                    case rel => exact ⟨k + 1, _, by omega, by go_num, S4.out.less (by omega)⟩
                    case measure => simp [intOf]; omega
                  · have i5 : ¬ (k : Int) < (gone.length : Int) := by omega
                    have SE := Lib.hid (hR5.out.less (N' := 1000 * ((i + 1 : Nat) : Int)) (by omega))
                    clear hR5
                    go_wp2_with fail
                    go_roundw
                    case rel => exact ⟨i + 1, m5, told, gone, ta, tc, ga, gc, by omega, rfl, rfl, by go_num, by omega, by omega, SE.out⟩
                    case measure => simp [intOf]; omega
          · rw [e1] at hc1
            simp only at hc1
            have F1 := Lib.hid f1
            have HN := Lib.hid hne
            clear e1 f1 hne
            go_wp2_with fail
            rw [← HW.out]
            refine hc1.mono ?_
            rintro e w5 ⟨rfl, h5, hk5⟩
            have T5 := Lib.hid (hS.out.t.kept hk5 HBB.out)
            have G5 := Lib.hid (hS.out.g.kept hk5 HBB.out)
            have A5 := Lib.hid hS.out.ap
            have Z5 : Hid (B ≤ w5.heap.size) := Nat.le_trans hS.out.sz hk5.size
            have H5 := Lib.hid h5
            clear hc1 hS h5 hk5 q0 q1 q2 q3 q4 k0 k1 k2 k3 k4
            go_wp2_with fail
            go_loop [13] (fun jv => ∃ j : Nat, j ≤ told.length ∧ jv = .int .i64 (j : Int)) (fun jv => told.length - (intOf jv).toNat)
            case atStart => exact ⟨0, by omega, rfl⟩
            case round =>
              obtain ⟨j, hj, rfl⟩ := hrel
              by_cases hlt3 : j < told.length
              · have i3 : (j : Int) < (told.length : Int) := by omega
                obtain ⟨gt, et, q0⟩ := own_at T5.out rfl hlt3
                have hne2 : (told.getD j 0 == nh) = false := by
                  have hm : told.getD j 0 ∈ told := by
                    rw [List.getD_eq_getElem?_getD, List.getElem?_eq_getElem hlt3]
                    exact List.getElem_mem hlt3
                  simpa using HN.out _ hm
                subst et
                generalize told.getD j 0 = y at q0 hne2
                go_wp2_with fail
                go_round
                case rel => exact ⟨j + 1, by omega, by go_num⟩
                case measure => simp [intOf]; omega
              · have i3 : ¬ (j : Int) < (told.length : Int) := by omega
                go_wp2_with (at_builtin; refine append1 rfl (.tmp 81) (.tmp 83) rfl B (.slice ta told.length tc) told nh rfl (T5.out.below ((Below.refl _ _).alloc (Nat.le_refl _) _)) w5.heap.size 1 rfl (alloc_cell _ _ _ 0 _ rfl) (by omega) (by have := Z5.out; simp; omega) ?_; intro v' w6 hown hgrow hblk; have H6 := Lib.hid (⟨hown, hgrow, hblk⟩ : _ ∧ _ ∧ _); clear hown hgrow hblk)
                obtain ⟨told2, ta2, tc2, EV, S6, hti2⟩ : ∃ (told2 : List Int) (ta2 : Option Addr) (tc2 : Nat), Hid (v' = .slice ta2 told2.length tc2) ∧ Hid (Stl w b c r B (1000 * i + 1) w6 (m.alloc (.word z.n)).1 told2 gone (.slice ta2 told2.length tc2) (.slice ga gone.length gc)) ∧ told2.length ≤ i + 1 := by
                  have hA := (Below.refl w5.heap.size w5).alloc (Nat.le_refl _) (Obj.cells #[Value.int IntKind.i64 nh] 3)
                  have hZ : B ≤ (w5.alloc (Obj.cells #[Value.int IntKind.i64 nh] 3)).heap.size := by have := Z5.out; simp; omega
                  have hB6 := (hA.mono Z5.out).trans (grown_below (T5.out.below hA) H6.out.2.1 hZ)
                  obtain ⟨la', lc', ev⟩ := own_len H6.out.1
                  refine ⟨told ++ [nh], la', lc', ev, ?_, by simp; omega⟩
                  rw [← ev]
                  exact ⟨H5.out.keep hB6 HBB.out hw2, F1.out, H6.out.1, (G5.out.below hA).grown H6.out.2.1 A5.out.symm, ((A5.out.symm).grown G5.out (by simp) H6.out.2.2).symm, Nat.le_trans Z5.out hB6.size⟩
                clear H6 T5 G5 A5 Z5 H5 F1
                go_wp2_with fail
                rw [EV.out]
                go_loopw [15] (fun kv wr => ∃ (k : Nat) (m : M), k ≤ gone.length ∧ kv = .int .i64 (k : Int) ∧ Hid (Stl w b c r B (1000 * i + 1 + 4 * k) wr m told2 gone (.slice ta2 told2.length tc2) (.slice ga gone.length gc))) (fun kv _ => gone.length - (intOf kv).toNat)
                case atStart => exact ⟨0, _, by omega, rfl, S6.out.less (by omega)⟩
                case round =>
                  obtain ⟨k, m5, hk, rfl, hR5⟩ := hrel
                  clear S6
                  obtain ⟨wq, hwq⟩ : ∃ wq, wq = wr := ⟨_, rfl⟩
                  subst hwq
                  by_cases hlt5 : k < gone.length
                  · have i5 : (k : Int) < (gone.length : Int) := by omega
                    obtain ⟨gg, eg, q0⟩ := own_at hR5.out.g rfl hlt5
                    have hq : Hid (∀ W, OwnI W B (.slice ga gone.length gc) gone → W.cell? ⟨gg, k, none⟩ = some (.int .i64 ((gone).getD k 0))) := fun W hW => by
                      obtain ⟨g', eg', q'⟩ := own_at hW rfl hlt5
                      rw [eg] at eg'
                      cases eg'
                      exact q'
                    have hmem : (gone).getD k 0 ∈ (gone) := by
                      have hkl : k < (gone).length := hlt5
                      rw [List.getD_eq_getElem?_getD, List.getElem?_eq_getElem hkl]
                      exact List.getElem_mem hkl
                    obtain ⟨c1, _, _, _, f1⟩ := hR5.out.fresh.calls hmem
                    obtain ⟨_, c2, _, _, f2⟩ := f1.calls hmem
                    obtain ⟨_, _, c3, _, f3⟩ := f2.calls hmem
                    obtain ⟨_, _, _, c4, f4⟩ := f3.calls hmem
                    generalize (gone).getD k 0 = z at *
                    have hc1 := hR5.out.has.word (by omega) z
                    rw [c1] at hc1
                    simp only at hc1
                    have HF2 := Lib.hid (⟨f1, f2, f3, f4⟩ : _ ∧ _ ∧ _ ∧ _)
                    subst eg
                    clear c1 f1 f2 f3 f4 hmem
                    go_wp2_with fail
                    refine hc1.mono ?_
                    rintro e x1 ⟨rfl, g1, kk1⟩
                    have S1 := Lib.hid (hR5.out.step g1 kk1 HF2.out.1 HBB.out)
                    have q1 := hq.out _ S1.out.g
                    have hc2 := S1.out.has.swap (by omega) z 0 1
                    rw [c2] at hc2
                    simp only at hc2
                    clear hc1 q0 hR5 g1 kk1 c2
                    go_wp2_with fail
                    refine hc2.mono ?_
                    rintro e x2 ⟨rfl, g2, kk2⟩
                    have S2 := Lib.hid (S1.out.step g2 kk2 HF2.out.2.1 HBB.out)
                    have q2 := hq.out _ S2.out.g
                    have hc3 := S2.out.has.free (by omega) z
                    rw [c3] at hc3
                    clear hc2 q1 S1 g2 kk2 c3
                    go_wp2_with fail
                    refine hc3.mono ?_
                    rintro e x3 ⟨rfl, g3, kk3⟩
                    have S3 := Lib.hid (S2.out.step g3 kk3 HF2.out.2.2.1 HBB.out)
                    have q3 := hq.out _ S3.out.g
                    have hc4 := S3.out.has.retire (by omega) z 1
                    rw [c4] at hc4
                    clear hc3 q2 S2 g3 kk3 c4
                    go_wp2_with fail
                    refine hc4.mono ?_
                    rintro e x4 ⟨rfl, g4, kk4⟩
                    have S4 := Lib.hid (S3.out.step g4 kk4 HF2.out.2.2.2 HBB.out)
                    clear hc4 q3 S3 g4 kk4 HF2
                    go_wp2_with fail
                    go_roundw
                    case rel => exact ⟨k + 1, _, by omega, by go_num, S4.out.less (by omega)⟩
                    case measure => simp [intOf]; omega
                  · have i5 : ¬ (k : Int) < (gone.length : Int) := by omega
                    have SE := Lib.hid (hR5.out.less (N' := 1000 * ((i + 1 : Nat) : Int)) (by omega))
                    clear hR5
                    go_wp2_with fail
                    go_roundw
                    case rel => exact ⟨i + 1, m5, told2, gone, ta2, tc2, ga, gc, by omega, rfl, rfl, by go_num, by omega, by omega, SE.out⟩
                    case measure => simp [intOf]; omega
        · have hdo2 : decide (z.act % 9 ≤ 1) = false := decide_eq_false hdo
          by_cases ht0 : told.length = 0
          · have ht1 : ¬ 0 < (told.length : Int) := by omega
            have S5 := Lib.hid (hS.out.less (N' := 1000 * (i : Int) + 1) (by omega))
            rw [HW.out] at S5
            clear ht0 hS q0 q1 q2 q3 q4
            go_wp2_with fail
            go_loopw [15] (fun kv wr => ∃ (k : Nat) (m : M), k ≤ gone.length ∧ kv = .int .i64 (k : Int) ∧ Hid (Stl w b c r B (1000 * i + 1 + 4 * k) wr m told gone (.slice ta told.length tc) (.slice ga gone.length gc))) (fun kv _ => gone.length - (intOf kv).toNat)
            case atStart => exact ⟨0, _, by omega, rfl, S5.out.less (by omega)⟩
            case round =>
              obtain ⟨k, m5, hk, rfl, hR5⟩ := hrel
              clear S5
              obtain ⟨wq, hwq⟩ : ∃ wq, wq = wr := ⟨_, rfl⟩
              subst hwq
              by_cases hlt5 : k < gone.length
              · have i5 : (k : Int) < (gone.length : Int) := by omega
                obtain ⟨gg, eg, q0⟩ := own_at hR5.out.g rfl hlt5
                have hq : Hid (∀ W, OwnI W B (.slice ga gone.length gc) gone → W.cell? ⟨gg, k, none⟩ = some (.int .i64 ((gone).getD k 0))) := fun W hW => by
                  obtain ⟨g', eg', q'⟩ := own_at hW rfl hlt5
                  rw [eg] at eg'
                  cases eg'
                  exact q'
                have hmem : (gone).getD k 0 ∈ (gone) := by
                  have hkl : k < (gone).length := hlt5
                  rw [List.getD_eq_getElem?_getD, List.getElem?_eq_getElem hkl]
                  exact List.getElem_mem hkl
                obtain ⟨c1, _, _, _, f1⟩ := hR5.out.fresh.calls hmem
                obtain ⟨_, c2, _, _, f2⟩ := f1.calls hmem
                obtain ⟨_, _, c3, _, f3⟩ := f2.calls hmem
                obtain ⟨_, _, _, c4, f4⟩ := f3.calls hmem
                generalize (gone).getD k 0 = z at *
                have hc1 := hR5.out.has.word (by omega) z
                rw [c1] at hc1
                simp only at hc1
                have HF2 := Lib.hid (⟨f1, f2, f3, f4⟩ : _ ∧ _ ∧ _ ∧ _)
                subst eg
                clear c1 f1 f2 f3 f4 hmem
                go_wp2_with fail
                refine hc1.mono ?_
                rintro e x1 ⟨rfl, g1, kk1⟩
                have S1 := Lib.hid (hR5.out.step g1 kk1 HF2.out.1 HBB.out)
                have q1 := hq.out _ S1.out.g
                have hc2 := S1.out.has.swap (by omega) z 0 1
                rw [c2] at hc2
                simp only at hc2
                clear hc1 q0 hR5 g1 kk1 c2
                go_wp2_with fail
                refine hc2.mono ?_
                rintro e x2 ⟨rfl, g2, kk2⟩
                have S2 := Lib.hid (S1.out.step g2 kk2 HF2.out.2.1 HBB.out)
                have q2 := hq.out _ S2.out.g
                have hc3 := S2.out.has.free (by omega) z
                rw [c3] at hc3
                clear hc2 q1 S1 g2 kk2 c3
                go_wp2_with fail
                refine hc3.mono ?_
                rintro e x3 ⟨rfl, g3, kk3⟩
                have S3 := Lib.hid (S2.out.step g3 kk3 HF2.out.2.2.1 HBB.out)
                have q3 := hq.out _ S3.out.g
                have hc4 := S3.out.has.retire (by omega) z 1
                rw [c4] at hc4
                clear hc3 q2 S2 g3 kk3 c4
                go_wp2_with fail
                refine hc4.mono ?_
                rintro e x4 ⟨rfl, g4, kk4⟩
                have S4 := Lib.hid (S3.out.step g4 kk4 HF2.out.2.2.2 HBB.out)
                clear hc4 q3 S3 g4 kk4 HF2
                go_wp2_with fail
                go_roundw
                case rel => exact ⟨k + 1, _, by omega, by go_num, S4.out.less (by omega)⟩
                case measure => simp [intOf]; omega
              · have i5 : ¬ (k : Int) < (gone.length : Int) := by omega
                have SE := Lib.hid (hR5.out.less (N' := 1000 * ((i + 1 : Nat) : Int)) (by omega))
                clear hR5
                go_wp2_with fail
                go_roundw
                case rel => exact ⟨i + 1, m5, told, gone, ta, tc, ga, gc, by omega, rfl, rfl, by go_num, by omega, by omega, SE.out⟩
                case measure => simp [intOf]; omega
          · have ht1 : 0 < (told.length : Int) := by omega
            by_cases hp0 : z.pos < 0
            · have S5 := Lib.hid (hS.out.less (N' := 1000 * (i : Int) + 1) (by omega))
              rw [HW.out] at S5
              clear hS q0 q1 q2 q3 q4
              go_wp2_with fail
              go_loopw [15] (fun kv wr => ∃ (k : Nat) (m : M), k ≤ gone.length ∧ kv = .int .i64 (k : Int) ∧ Hid (Stl w b c r B (1000 * i + 1 + 4 * k) wr m told gone (.slice ta told.length tc) (.slice ga gone.length gc))) (fun kv _ => gone.length - (intOf kv).toNat)
              case atStart => exact ⟨0, _, by omega, rfl, S5.out.less (by omega)⟩
              case round =>
                obtain ⟨k, m5, hk, rfl, hR5⟩ := hrel
                clear S5
                obtain ⟨wq, hwq⟩ : ∃ wq, wq = wr := ⟨_, rfl⟩
                subst hwq
                by_cases hlt5 : k < gone.length
                · have i5 : (k : Int) < (gone.length : Int) := by omega
                  obtain ⟨gg, eg, q0⟩ := own_at hR5.out.g rfl hlt5
                  have hq : Hid (∀ W, OwnI W B (.slice ga gone.length gc) gone → W.cell? ⟨gg, k, none⟩ = some (.int .i64 ((gone).getD k 0))) := fun W hW => by
                    obtain ⟨g', eg', q'⟩ := own_at hW rfl hlt5
                    rw [eg] at eg'
                    cases eg'
                    exact q'
                  have hmem : (gone).getD k 0 ∈ (gone) := by
                    have hkl : k < (gone).length := hlt5
                    rw [List.getD_eq_getElem?_getD, List.getElem?_eq_getElem hkl]
                    exact List.getElem_mem hkl
                  obtain ⟨c1, _, _, _, f1⟩ := hR5.out.fresh.calls hmem
                  obtain ⟨_, c2, _, _, f2⟩ := f1.calls hmem
                  obtain ⟨_, _, c3, _, f3⟩ := f2.calls hmem
                  obtain ⟨_, _, _, c4, f4⟩ := f3.calls hmem
                  generalize (gone).getD k 0 = z at *
                  have hc1 := hR5.out.has.word (by omega) z
                  rw [c1] at hc1
                  simp only at hc1
                  have HF2 := Lib.hid (⟨f1, f2, f3, f4⟩ : _ ∧ _ ∧ _ ∧ _)
                  subst eg
                  clear c1 f1 f2 f3 f4 hmem
                  go_wp2_with fail
                  refine hc1.mono ?_
                  rintro e x1 ⟨rfl, g1, kk1⟩
                  have S1 := Lib.hid (hR5.out.step g1 kk1 HF2.out.1 HBB.out)
                  have q1 := hq.out _ S1.out.g
                  have hc2 := S1.out.has.swap (by omega) z 0 1
                  rw [c2] at hc2
                  simp only at hc2
                  clear hc1 q0 hR5 g1 kk1 c2
                  go_wp2_with fail
                  refine hc2.mono ?_
                  rintro e x2 ⟨rfl, g2, kk2⟩
                  have S2 := Lib.hid (S1.out.step g2 kk2 HF2.out.2.1 HBB.out)
                  have q2 := hq.out _ S2.out.g
                  have hc3 := S2.out.has.free (by omega) z
                  rw [c3] at hc3
                  clear hc2 q1 S1 g2 kk2 c3
                  go_wp2_with fail
                  refine hc3.mono ?_
                  rintro e x3 ⟨rfl, g3, kk3⟩
                  have S3 := Lib.hid (S2.out.step g3 kk3 HF2.out.2.2.1 HBB.out)
                  have q3 := hq.out _ S3.out.g
                  have hc4 := S3.out.has.retire (by omega) z 1
                  rw [c4] at hc4
                  clear hc3 q2 S2 g3 kk3 c4
                  go_wp2_with fail
                  refine hc4.mono ?_
                  rintro e x4 ⟨rfl, g4, kk4⟩
                  have S4 := Lib.hid (S3.out.step g4 kk4 HF2.out.2.2.2 HBB.out)
                  clear hc4 q3 S3 g4 kk4 HF2
                  go_wp2_with fail
                  go_roundw
                  case rel => exact ⟨k + 1, _, by omega, by go_num, S4.out.less (by omega)⟩
                  case measure => simp [intOf]; omega
                · have i5 : ¬ (k : Int) < (gone.length : Int) := by omega
                  have SE := Lib.hid (hR5.out.less (N' := 1000 * ((i + 1 : Nat) : Int)) (by omega))
                  clear hR5
                  go_wp2_with fail
                  go_roundw
                  case rel => exact ⟨i + 1, m5, told, gone, ta, tc, ga, gc, by omega, rfl, rfl, by go_num, by omega, by omega, SE.out⟩
                  case measure => simp [intOf]; omega
            · obtain ⟨qq, hqq, hql⟩ : ∃ qq : Nat, z.pos % (told.length : Int) = (qq : Int) ∧ qq < told.length := by
                have h1 := Int.emod_nonneg z.pos (b := (told.length : Int)) (by omega)
                have h2 := Int.emod_lt_of_pos z.pos (b := (told.length : Int)) (by omega)
                exact ⟨(z.pos % (told.length : Int)).toNat, by omega, by omega⟩
              obtain ⟨gt, et, qt⟩ := own_at HRT.out rfl hql
              have hgt : gt < wo.heap.size := World.block_lt_of_cell? wo _ qt
              have HQQ := Lib.hid hqq
              have HQT : Hid (z.pos.tmod (told.length : Int) = (qq : Int)) := by
                rw [Int.tmod_eq_emod_of_nonneg (by omega)]
                exact hqq
              clear hqq
              subst et
              generalize told.getD qq 0 = y at qt
              have hc1 := hS.out.has.free (by omega) y
              rcases hS.out.fresh.free (k := y) with ⟨e1, f1⟩ | ⟨e1, f1⟩
              · rw [e1] at hc1
                have F1 := Lib.hid f1
                clear e1 f1
                go_wp2_with (first | rw [HQQ.out] | rw [HQT.out] | fail)
                rw [← HW.out]
                refine hc1.mono ?_
                rintro e w5 ⟨rfl, h5, hk5⟩
                have S5 := Lib.hid (hS.out.step h5 hk5 F1.out HBB.out)
                clear hc1 hS h5 hk5 F1 q0 q1 q2 q3 q4 k0 k1 k2 k3 k4 HRT qt
                go_wp2_with fail
                go_loopw [15] (fun kv wr => ∃ (k : Nat) (m : M), k ≤ gone.length ∧ kv = .int .i64 (k : Int) ∧ Hid (Stl w b c r B (1000 * i + 1 + 4 * k) wr m told gone (.slice (some ⟨gt, 0, none⟩) told.length tc) (.slice ga gone.length gc))) (fun kv _ => gone.length - (intOf kv).toNat)
                case atStart => exact ⟨0, _, by omega, rfl, S5.out.less (by omega)⟩
                case round =>
                  obtain ⟨k, m5, hk, rfl, hR5⟩ := hrel
                  clear S5
                  obtain ⟨wq, hwq⟩ : ∃ wq, wq = wr := ⟨_, rfl⟩
                  subst hwq
                  by_cases hlt5 : k < gone.length
                  · have i5 : (k : Int) < (gone.length : Int) := by omega
                    obtain ⟨gg, eg, q0⟩ := own_at hR5.out.g rfl hlt5
                    have hq : Hid (∀ W, OwnI W B (.slice ga gone.length gc) gone → W.cell? ⟨gg, k, none⟩ = some (.int .i64 ((gone).getD k 0))) := fun W hW => by
                      obtain ⟨g', eg', q'⟩ := own_at hW rfl hlt5
                      rw [eg] at eg'
                      cases eg'
                      exact q'
                    have hmem : (gone).getD k 0 ∈ (gone) := by
                      have hkl : k < (gone).length := hlt5
                      rw [List.getD_eq_getElem?_getD, List.getElem?_eq_getElem hkl]
                      exact List.getElem_mem hkl
                    obtain ⟨c1, _, _, _, f1⟩ := hR5.out.fresh.calls hmem
                    obtain ⟨_, c2, _, _, f2⟩ := f1.calls hmem
                    obtain ⟨_, _, c3, _, f3⟩ := f2.calls hmem
                    obtain ⟨_, _, _, c4, f4⟩ := f3.calls hmem
                    generalize (gone).getD k 0 = z at *
                    have hc1 := hR5.out.has.word (by omega) z
                    rw [c1] at hc1
                    simp only at hc1
                    have HF2 := Lib.hid (⟨f1, f2, f3, f4⟩ : _ ∧ _ ∧ _ ∧ _)
                    subst eg
                    clear c1 f1 f2 f3 f4 hmem
                    go_wp2_with fail
                    refine hc1.mono ?_
                    rintro e x1 ⟨rfl, g1, kk1⟩
                    have S1 := Lib.hid (hR5.out.step g1 kk1 HF2.out.1 HBB.out)
                    have q1 := hq.out _ S1.out.g
                    have hc2 := S1.out.has.swap (by omega) z 0 1
                    rw [c2] at hc2
                    simp only at hc2
                    clear hc1 q0 hR5 g1 kk1 c2
                    go_wp2_with fail
                    refine hc2.mono ?_
                    rintro e x2 ⟨rfl, g2, kk2⟩
                    have S2 := Lib.hid (S1.out.step g2 kk2 HF2.out.2.1 HBB.out)
                    have q2 := hq.out _ S2.out.g
                    have hc3 := S2.out.has.free (by omega) z
                    rw [c3] at hc3
                    clear hc2 q1 S1 g2 kk2 c3
                    go_wp2_with fail
                    refine hc3.mono ?_
                    rintro e x3 ⟨rfl, g3, kk3⟩
                    have S3 := Lib.hid (S2.out.step g3 kk3 HF2.out.2.2.1 HBB.out)
                    have q3 := hq.out _ S3.out.g
                    have hc4 := S3.out.has.retire (by omega) z 1
                    rw [c4] at hc4
                    clear hc3 q2 S2 g3 kk3 c4
                    go_wp2_with fail
                    refine hc4.mono ?_
                    rintro e x4 ⟨rfl, g4, kk4⟩
                    have S4 := Lib.hid (S3.out.step g4 kk4 HF2.out.2.2.2 HBB.out)
                    clear hc4 q3 S3 g4 kk4 HF2
                    go_wp2_with fail
                    go_roundw
                    case rel => exact ⟨k + 1, _, by omega, by go_num, S4.out.less (by omega)⟩
                    case measure => simp [intOf]; omega
                  · have i5 : ¬ (k : Int) < (gone.length : Int) := by omega
                    have SE := Lib.hid (hR5.out.less (N' := 1000 * ((i + 1 : Nat) : Int)) (by omega))
                    clear hR5
                    go_wp2_with fail
                    go_roundw
                    case rel => exact ⟨i + 1, m5, told, gone, (some ⟨gt, 0, none⟩), tc, ga, gc, by omega, rfl, rfl, by go_num, by omega, by omega, SE.out⟩
                    case measure => simp [intOf]; omega
              · rw [e1] at hc1
                have F1 := Lib.hid f1
                clear e1 f1
                go_wp2_with (first | rw [HQQ.out] | rw [HQT.out] | fail)
                rw [← HW.out]
                refine hc1.mono ?_
                rintro e w5 ⟨rfl, h5, hk5⟩
                have T5 := Lib.hid (hS.out.t.kept hk5 HBB.out)
                have G5 := Lib.hid (hS.out.g.kept hk5 HBB.out)
                have A5 := Lib.hid hS.out.ap
                have Z5 : Hid (B ≤ w5.heap.size) := Nat.le_trans hS.out.sz hk5.size
                have H5 := Lib.hid h5
                clear hc1 hS h5 hk5 q0 q1 q2 q3 q4 k0 k1 k2 k3 k4 HRT qt
                go_wp2_with (at_builtin; refine append1 rfl (.tmp 105) (.tmp 107) rfl B (.slice ga gone.length gc) gone y rfl (G5.out.below ((Below.refl _ _).alloc (Nat.le_refl _) _)) w5.heap.size 1 rfl (alloc_cell _ _ _ 0 _ rfl) (by omega) (by have := Z5.out; simp; omega) ?_; intro v' w6 hown hgrow hblk; have H6 := Lib.hid (⟨hown, hgrow, hblk⟩ : _ ∧ _ ∧ _); clear hown hgrow hblk)
                obtain ⟨gone2, ga2, gc2, EV, S6, hgi2⟩ : ∃ (gone2 : List Int) (ga2 : Option Addr) (gc2 : Nat), Hid (v' = .slice ga2 gone2.length gc2) ∧ Hid (Stl w b c r B (1000 * i + 1) w6 (m.free y).1 told gone2 (.slice (some ⟨gt, 0, none⟩) told.length tc) (.slice ga2 gone2.length gc2)) ∧ gone2.length ≤ i + 1 := by
                  have hA := (Below.refl w5.heap.size w5).alloc (Nat.le_refl _) (Obj.cells #[Value.int IntKind.i64 y] 3)
                  have hZ : B ≤ (w5.alloc (Obj.cells #[Value.int IntKind.i64 y] 3)).heap.size := by have := Z5.out; simp; omega
                  have hB6 := (hA.mono Z5.out).trans (grown_below (G5.out.below hA) H6.out.2.1 hZ)
                  obtain ⟨la', lc', ev⟩ := own_len H6.out.1
                  refine ⟨gone ++ [y], la', lc', ev, ?_, by simp; omega⟩
                  rw [← ev]
                  exact ⟨H5.out.keep hB6 HBB.out hw2, F1.out, (T5.out.below hA).grown H6.out.2.1 A5.out, H6.out.1, A5.out.grown T5.out (by simp) H6.out.2.2, Nat.le_trans Z5.out hB6.size⟩
                clear H6 T5 G5 A5 Z5 H5 F1
                go_wp2_with fail
                rw [EV.out]
                go_loopw [15] (fun kv wr => ∃ (k : Nat) (m : M), k ≤ gone2.length ∧ kv = .int .i64 (k : Int) ∧ Hid (Stl w b c r B (1000 * i + 1 + 4 * k) wr m told gone2 (.slice (some ⟨gt, 0, none⟩) told.length tc) (.slice ga2 gone2.length gc2))) (fun kv _ => gone2.length - (intOf kv).toNat)
                case atStart => exact ⟨0, _, by omega, rfl, S6.out.less (by omega)⟩
                case round =>
                  obtain ⟨k, m5, hk, rfl, hR5⟩ := hrel
                  clear S6
                  obtain ⟨wq, hwq⟩ : ∃ wq, wq = wr := ⟨_, rfl⟩
                  subst hwq
                  by_cases hlt5 : k < gone2.length
                  · have i5 : (k : Int) < (gone2.length : Int) := by omega
                    obtain ⟨gg, eg, q0⟩ := own_at hR5.out.g rfl hlt5
                    have hq : Hid (∀ W, OwnI W B (.slice ga2 gone2.length gc2) gone2 → W.cell? ⟨gg, k, none⟩ = some (.int .i64 ((gone2).getD k 0))) := fun W hW => by
                      obtain ⟨g', eg', q'⟩ := own_at hW rfl hlt5
                      rw [eg] at eg'
                      cases eg'
                      exact q'
                    have hmem : (gone2).getD k 0 ∈ (gone2) := by
                      have hkl : k < (gone2).length := hlt5
                      rw [List.getD_eq_getElem?_getD, List.getElem?_eq_getElem hkl]
                      exact List.getElem_mem hkl
                    obtain ⟨c1, _, _, _, f1⟩ := hR5.out.fresh.calls hmem
                    obtain ⟨_, c2, _, _, f2⟩ := f1.calls hmem
                    obtain ⟨_, _, c3, _, f3⟩ := f2.calls hmem
                    obtain ⟨_, _, _, c4, f4⟩ := f3.calls hmem
                    generalize (gone2).getD k 0 = z at *
                    have hc1 := hR5.out.has.word (by omega) z
                    rw [c1] at hc1
                    simp only at hc1
                    have HF2 := Lib.hid (⟨f1, f2, f3, f4⟩ : _ ∧ _ ∧ _ ∧ _)
                    subst eg
                    clear c1 f1 f2 f3 f4 hmem
                    go_wp2_with fail
                    refine hc1.mono ?_
                    rintro e x1 ⟨rfl, g1, kk1⟩
                    have S1 := Lib.hid (hR5.out.step g1 kk1 HF2.out.1 HBB.out)
                    have q1 := hq.out _ S1.out.g
                    have hc2 := S1.out.has.swap (by omega) z 0 1
                    rw [c2] at hc2
                    simp only at hc2
                    clear hc1 q0 hR5 g1 kk1 c2
                    go_wp2_with fail
                    refine hc2.mono ?_
                    rintro e x2 ⟨rfl, g2, kk2⟩
                    have S2 := Lib.hid (S1.out.step g2 kk2 HF2.out.2.1 HBB.out)
                    have q2 := hq.out _ S2.out.g
                    have hc3 := S2.out.has.free (by omega) z
                    rw [c3] at hc3
                    clear hc2 q1 S1 g2 kk2 c3
                    go_wp2_with fail
                    refine hc3.mono ?_
                    rintro e x3 ⟨rfl, g3, kk3⟩
                    have S3 := Lib.hid (S2.out.step g3 kk3 HF2.out.2.2.1 HBB.out)
                    have q3 := hq.out _ S3.out.g
                    have hc4 := S3.out.has.retire (by omega) z 1
                    rw [c4] at hc4
                    clear hc3 q2 S2 g3 kk3 c4
                    go_wp2_with fail
                    refine hc4.mono ?_
                    rintro e x4 ⟨rfl, g4, kk4⟩
                    have S4 := Lib.hid (S3.out.step g4 kk4 HF2.out.2.2.2 HBB.out)
                    clear hc4 q3 S3 g4 kk4 HF2
                    go_wp2_with fail
                    go_roundw
                    case rel => exact ⟨k + 1, _, by omega, by go_num, S4.out.less (by omega)⟩
                    case measure => simp [intOf]; omega
                  · have i5 : ¬ (k : Int) < (gone2.length : Int) := by omega
                    have SE := Lib.hid (hR5.out.less (N' := 1000 * ((i + 1 : Nat) : Int)) (by omega))
                    clear hR5
                    go_wp2_with fail
                    go_roundw
                    case rel => exact ⟨i + 1, m5, told, gone2, (some ⟨gt, 0, none⟩), tc, ga2, gc2, by omega, rfl, rfl, by go_num, by omega, by omega, SE.out⟩
                    case measure => simp [intOf]; omega
      · have i1 : ¬ (i : Int) < (l.length : Int) := by omega
        have hlv := live_any _ b c r m hR.out.has.at_
        rw [hR.out.fresh.lv] at hlv
        have HBel := Lib.hid hR.out.has.below
        clear hR
        go_wp2_with fail
        refine hlv.mono ?_
        rintro e w3 ⟨rfl, rfl⟩
        go_wp2
        go_ret
        exact ⟨rfl, HBel.out⟩
  · have h1 : ¬ (l.length : Int) ≤ 200 := by omega
    go_enter Tryd.func4, Tryd.ntmps4
    go_wp2_with fail
    refine (haw _ (Below.refl _ _)).mono ?_
    rintro e w1 ⟨rfl, b1⟩
    have haw2 := haw _ b1
    have hsz := b1.size
    have HB := Lib.hid b1
    clear b1 haw
    go_wp2_with fail
    refine haw2.mono ?_
    rintro e w2 ⟨rfl, b2⟩
    have HE := Lib.hid (HB.out.trans (b2.mono hsz))
    clear b2
    go_wp2
    go_ret
    exact ⟨rfl, HE.out⟩
theorem staleLaw (a : Int) (ha : (Lit.int .u8 a).wf = true) (ad : Option Addr) (l : List Ac) (cap : Nat) {w : World} (hL : Acts w ad l) (hO : ActsOk l) (_W : World) (hT : TabAt w) : Calls Tryd.prog 4 #[.int .u8 a, .slice ad l.length cap] w fun e w' => e = .returned (.bool true) ∧ Below w.heap.size w w' := by
  obtain ⟨h0, h1⟩ := wf8 ha
  obtain ⟨n, rfl⟩ : ∃ n : Nat, a = (n : Int) := ⟨a.toNat, by omega⟩
  exact stale_law n (by omega) ad l cap w hT hL hO
end Go.Proofs.YtnhpcakdnaoekaaDoor
