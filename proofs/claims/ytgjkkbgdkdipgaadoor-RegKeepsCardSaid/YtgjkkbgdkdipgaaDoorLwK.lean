/- RegKeeps's walk. Condition: the library's table stands. -/
import Derived.Test.YtgjkkbgdkdipgaaDoorKv
import Derived.Lib.MinMaxS
import Derived.Deep.CutRange
namespace Go.Proofs.YtgjkkbgdkdipgaaDoor
open Go.RowKit Go.Op
set_option maxRecDepth 100000

theorem as3_yes (x : Int) (w : World) : (Instr.typeAssert (.iface 3 (.int .i64 x)) 20 3 true).run Tryd.prog w = .ok (.tuple #[.int .i64 x, .bool true]) w := by kernel_rfl
theorem load_24 {w : World} {p : Addr} {b : Nat} (h : w.cell? p = some (.pointer (some ⟨b, 0, none⟩))) : (Instr.loadAt 24 (.pointer (some p))).run Tryd.prog w = .ok (.pointer (some ⟨b, 0, none⟩)) w := by go_simp
theorem enter_25 (xs : Array Value) (w : World) : (callFunc 25 xs).run Tryd.prog w = .ok (.enter 25 xs) w := by kernel_rfl
theorem enter_17 (xs : Array Value) (w : World) : (callFunc 17 xs).run Tryd.prog w = .ok (.enter 17 xs) w := by kernel_rfl
theorem Bys.nat {w W : World} {a : Option Addr} {T : List Int} (h : Bys w a T) (hb : Below w.heap.size w W) {k : Nat} (hk : k < T.length) : ∃ (pb off xn : Nat), a = some ⟨pb, off, none⟩ ∧ W.cell? ⟨pb, off + k, none⟩ = some (.int .u8 (xn : Int)) ∧ xn ≤ 255 := by
  obtain ⟨pb, off, ea, x1, x2, x3⟩ := h.at_ hb hk
  generalize T[k] = q at x1 x2 x3
  exact ⟨pb, off, q.toNat, ea, by rw [x1, show ((q.toNat : Nat) : Int) = q by omega], by omega⟩
set_option maxHeartbeats 4000000 in
theorem keeps_law (W : World) (hT : TabAt W) (f : Nat) (hf : f ≤ 255) (a1 : Option Addr) (l1 : List Int) (cap1 : Nat) (hl1 : Bys W a1 l1) :
    Calls Tryd.prog 4 #[.slice a1 l1.length cap1, .int .u8 (f : Int)] W fun e w' => e = .returned (.bool true) ∧ Below W.heap.size W w' := by
  obtain ⟨k1, hk1⟩ : ∃ k, k = l1.length := ⟨_, rfl⟩
  have haw := awake_any W hT
  have hm := hmf1
  have a3 := as3_yes
  have n1 := neq53_no
  have n2 := neq53_yes
  have n3 := eql53_no
  have n4 := eql53_yes
  have HN := Lib.hid (⟨hk1, hl1, hT, hf⟩ : _ ∧ _ ∧ _ ∧ _)
  rw [← hk1]
  have hf2 : (f : Int) ≤ 255 := by omega
  clear hk1 hl1 hT hf
  by_cases hlen : k1 ≤ 400
  case neg =>
    have hlen2 : ¬ (k1 : Int) ≤ 400 := by omega
    go_enter Tryd.func4, Tryd.ntmps4
    go_wp2_with fail
    refine haw.mono ?_
    rintro e w1 ⟨rfl, hb1⟩
    have haw2 := awake_any w1 (HN.out.2.2.1.below hb1)
    have HB1 := Lib.hid hb1
    clear haw hb1
    go_wp2_with fail
    refine haw2.mono ?_
    rintro e w2 ⟨rfl, hb2⟩
    have HE := Lib.hid (HB1.out.trans (hb2.mono HB1.out.size))
    clear haw2 hb2
    go_wp2_with fail
    go_ret
    exact ⟨rfl, HE.out⟩
  have hlen2 : (k1 : Int) ≤ 400 := by omega
  go_enter Tryd.func4, Tryd.ntmps4
  go_wp2_with fail
  refine haw.mono ?_
  rintro e w1 ⟨rfl, hb1⟩
  have hl := lay_any w1 (HN.out.2.2.1.below hb1) 4 2 (by decide) (by decide)
  have HB1 := Lib.hid hb1
  have HT1 := Lib.hid (HN.out.2.2.1.below hb1)
  clear haw hb1
  go_wp2_with fail
  refine hl.mono ?_
  rintro e w2 ⟨⟨b, c, r, G, R, S, P, m, rfl, hL⟩, hb2⟩
  obtain ⟨w3, hw3⟩ : ∃ W, W = w2.alloc (yobj b R) := ⟨_, rfl⟩
  have hb3 : Below w2.heap.size w2 w3 := by rw [hw3]; exact (Below.refl _ _).alloc (Nat.le_refl _) _
  have hpu := publish_any (R := R) (n := (f : Int) % 5) (hL.has.later hb3) HT1.out (by rw [hL.top]; exact hL.rm) (by decide) (by have := hL.cnt; omega) (by omega)
  have y3' : YVar w3 w2.heap.size b R := by rw [hw3]; exact ynew w2 b R
  have hz3 : w3.heap.size = w2.heap.size + 1 := by rw [hw3]; simp
  have HL3 := Lib.hid (⟨hL, y3', hz3, hL.has.fresh (yobj b R), hw3⟩ : _ ∧ _ ∧ _ ∧ _ ∧ _)
  obtain ⟨y0, y1, y2, y3, -⟩ := y3'
  unfold yobj at hw3
  unfold yv at hpu ⊢
  have HW3 := Lib.hid hw3.symm
  clear hl hL hb2 hb3 hw3
  go_wp2_with (first | rw [HW3.out] | fail)
  refine hpu.mono ?_
  rintro e w4 ⟨rfl, G', m', hp⟩
  obtain ⟨hL, y3', hz3, hfr, hw3⟩ := HL3.out
  rw [← hw3] at hfr
  have ly := hfr.later hp.but.size hp.gro
  have hy4 : YVar w4 w2.heap.size b R := y3'.same (hp.but.block _ (by omega) (by have := ly.ne; simp; omega))
  have hnm := newmach_any (b := b) (capO w2.heap.size) w4 ⟨_, _, rfl⟩
  rw [hw3] at hp
  obtain ⟨w5, hw5⟩ : ∃ W, W = w4.alloc (machObj b (capO w2.heap.size)) := ⟨_, rfl⟩
  have hst := ks_start (w5 := w5) hL hp (by omega) (by rw [hw5]; exact Below.refl _ _)
  have y0 := hy4.c0
  have HST := Lib.hid hst
  have HW5 := Lib.hid hw5
  unfold capO at hnm
  clear hpu hp hst hL y3' hz3 hfr hw3 ly hy4 y1 y2 y3 hw5 HL3
  go_wp2_with fail
  refine hnm.mono ?_
  rintro e w5' ⟨rfl, h5⟩
  have e5 : w5' = w5 := h5.trans HW5.out.symm
  clear hnm h5
  subst e5
  obtain ⟨gs, gp, a0, a1', a2, a3', p0, p1, hne, hKS⟩ := HST.out
  obtain ⟨w6, hw6⟩ : ∃ W, W = w5'.alloc (.cells #[.int .i64 (-1)] 3) := ⟨_, rfl⟩
  rw [← hw6] at hKS
  have HKS := Lib.hid hKS
  have HNE := Lib.hid hne
  have HW6 := Lib.hid hw6.symm
  clear HST HW5 hKS hne hw6 y0 HW3
  go_wp2_with (first | rw [HW6.out] | fail)
  clear HW6
  generalize w5'.heap.size = zi at *
  generalize w4.heap.size = ob at *
  generalize w2.heap.size = zy at *
  go_loopw [8, 9, 10, 12, 13, 14] (fun hv cv av sv fv iv wr => ∃ (i : Nat) (F : Int), i ≤ k1 ∧ sv = .bool false ∧ fv = .int .i64 F ∧ iv = .int .i64 (i : Int) ∧ Hid (KS w1 b c r zy zi gs gp R a0 a1' a2 a3' p0 p1 i F av ob hv cv wr)) (fun _ _ _ _ _ iv _ => k1 - (intOf iv).toNat)
  case atStart => exact ⟨0, -1, Nat.zero_le _, rfl, rfl, rfl, HKS⟩
  case round =>
    obtain ⟨i, F, hi, rfl, rfl, rfl, hR⟩ := hrel
    obtain ⟨hv, hhv⟩ : ∃ q, q = u8 := ⟨_, rfl⟩
    obtain ⟨cv, hcv⟩ : ∃ q, q = u9 := ⟨_, rfl⟩
    obtain ⟨av, hav⟩ : ∃ q, q = u10 := ⟨_, rfl⟩
    subst hhv
    subst hcv
    subst hav
    clear HKS
    by_cases hlt : i < k1
    case neg =>
      obtain rfl : i = k1 := by omega
      have i1 : ¬ (i : Int) < (i : Int) := by omega
      have HE : Hid (Below W.heap.size W wr) := HB1.out.trans (hR.out.ge.mono HB1.out.size)
      go_wp2_with fail
      go_ret
      exact ⟨rfl, HE.out⟩
    have i1 : (i : Int) < (k1 : Int) := by omega
    have HLT := Lib.hid (⟨hlt, hlen⟩ : _ ∧ _)
    clear hi hlt hlen
    have hvw := hR.out.view HNE.out
    have hwho := hR.out.who
    go_upto_region 13 with fail
    go_cut [57] from 46 to 143 (fun t w2 => w2 = wr ∧ ∃ tb, t = .bool tb ∧ Hid ((tb = false ∧ KS w1 b c r zy zi gs gp R a0 a1' a2 a3' p0 p1 i F av ob hv cv wr) ∨ (tb = true ∧ (hv = .pointer none ∧ cv = .pointer none) ∧ (Calls Tryd.prog 24 #[.pointer (some ⟨ob, 0, none⟩)] wr fun e w2 => e = .returned (.iface 3 (.int .i64 0)) ∧ wr = w2) ∧ wr.cell? ⟨zi, 0, none⟩ = some (.int .i64 (-1)) ∧ wr.frozen? ⟨zi, 0, none⟩ = false ∧ KTs w1 b c r zy zi gs gp R a0 a1' a2 a3' p0 p1 i F av ob (wr.setCell ⟨zi, 0, none⟩ (.int .i64 0)))))
    case first =>
      rcases hvw with ⟨-, hen⟩ | ⟨hn, hen, hou, ci, fi, hkt⟩ | ⟨-, hen, ci⟩
      · go_wp2_with fail
        refine hen.mono ?_
        rintro e w2 ⟨rfl, rfl⟩
        go_wp2_with fail
        go_meet
        exact ⟨rfl, false, rfl, .inl ⟨rfl, hR.out⟩⟩
      · have HH := Lib.hid (⟨rfl, hn, hou, ci, fi, hkt⟩ : true = true ∧ _ ∧ _ ∧ _ ∧ _ ∧ _)
        clear hn hou fi hkt
        go_wp2_with fail
        refine hen.mono ?_
        rintro e w2 ⟨rfl, rfl⟩
        go_wp2_with fail
        go_meet
        exact ⟨rfl, true, rfl, .inr ⟨rfl, HH.out.2⟩⟩
      · go_wp2_with fail
        refine hen.mono ?_
        rintro e w2 ⟨rfl, rfl⟩
        go_wp2_with fail
        go_meet
        exact ⟨rfl, false, rfl, .inl ⟨rfl, hR.out⟩⟩
    obtain ⟨rfl, tb, rfl, hcase⟩ := hcut
    clear hvw hwho hR
    go_upto_if 57 with fail
    go_cut [8, 9] from 46 to 143 (fun hv2 cv2 w2 => Hid (KS w1 b c r zy zi gs gp R a0 a1' a2 a3' p0 p1 i F av ob hv2 cv2 w2))
    case first =>
      rcases hcase.out with ⟨rfl, hks⟩ | ⟨rfl, ⟨rfl, rfl⟩, hou, ci, fi, hkt⟩
      · go_wp2_with fail
        go_meet
        exact hks
      · clear hcase
        obtain ⟨ws, hws⟩ : ∃ w, w = wc.setCell ⟨zi, 0, none⟩ (.int .i64 0) := ⟨_, rfl⟩
        rw [← hws] at hkt
        have HWS := Lib.hid hws.symm
        have HY : Hid (∀ V, Below ws.heap.size ws V → YVar V zy b R ∧ V.cell? ⟨zi, 0, none⟩ = some (.int .i64 0)) := fun V hb => (hkt.later hb).y
        have HY2 : Hid (∀ (V : World) (u : Value), (∃ V0, KTs w1 b c r zy zi gs gp R a0 a1' a2 a3' p0 p1 i F av ob V0 ∧ u = capH V0.heap.size (V0.heap.size + 1) ∧ V = (V0.alloc (yobj b R)).alloc (.cells #[.int .i64 0] 3)) → V.cell? ⟨zy, 0, none⟩ = some (.pointer (some ⟨b, 0, none⟩))) := by
          rintro V u ⟨V0, hk, rfl, rfl⟩
          exact (hk.later (((Below.refl _ _).alloc (Nat.le_refl _) _).alloc (by simp) _)).y.1.c0
        have HC1 : Hid (∀ V, Below ws.heap.size ws V → Calls Tryd.prog 25 #[yv b R, .int .i64 0] V fun e w' => ∃ u, e = .returned u ∧ ∃ V0, KTs w1 b c r zy zi gs gp R a0 a1' a2 a3' p0 p1 i F av ob V0 ∧ u = capH V0.heap.size (V0.heap.size + 1) ∧ w' = (V0.alloc (yobj b R)).alloc (.cells #[.int .i64 0] 3)) := fun V hb => by
          refine (hold_any b R 0 V).mono ?_
          rintro e w' ⟨rfl, rfl⟩
          exact ⟨_, rfl, V, hkt.later hb, rfl, rfl⟩
        have HC2 : Hid (∀ (u : Value) (V : World), (∃ V0, KTs w1 b c r zy zi gs gp R a0 a1' a2 a3' p0 p1 i F av ob V0 ∧ u = capH V0.heap.size (V0.heap.size + 1) ∧ V = (V0.alloc (yobj b R)).alloc (.cells #[.int .i64 0] 3)) → Calls Tryd.prog 17 #[.pointer (some ⟨b, 0, none⟩), u] V fun e w' => ∃ v, e = .returned v ∧ ∃ hb, v = .pointer (some ⟨hb, 0, none⟩) ∧ KHs w1 b c r zy zi gs gp R a0 a1' a2 a3' p0 p1 i F av ob hb w') := by
          rintro u V ⟨V0, hk, rfl, rfl⟩
          refine (newmach_any (b := b) _ _ ⟨_, _, rfl⟩).mono ?_
          rintro e w' ⟨rfl, rfl⟩
          exact ⟨_, rfl, _, rfl, hk.hold (Below.refl _ _)⟩
        clear hkt hws
        go_wp2_with (first | rw [HWS.out] | fail)
        refine hou.mono ?_
        rintro e w' ⟨rfl, rfl⟩
        clear hou
        go_wp2_with (first | rw [HWS.out] | fail)
        clear HWS ci fi
        refine FreeV.region_puts (S := K2Mid ws 4 5 (fun u V => ∃ V0, KTs w1 b c r zy zi gs gp R a0 a1' a2 a3' p0 p1 i F av ob V0 ∧ u = capH V0.heap.size (V0.heap.size + 1) ∧ V = (V0.alloc (yobj b R)).alloc (.cells #[.int .i64 0] 3)) (fun u V => ∃ hb, u = .pointer (some ⟨hb, 0, none⟩) ∧ KHs w1 b c r zy zi gs gp R a0 a1' a2 a3' p0 p1 i F av ob hb V)) (effs := [4, 5])
          (tab := [⟨1, fun _ => [.pointer (some ⟨zy, 0, none⟩)], fun _ => .pointer (some ⟨b, 0, none⟩), .read⟩,
            ⟨2, fun _ => [.pointer (some ⟨zy, 0, none⟩)], fun _ => (yv b R), .read⟩,
            ⟨3, fun _ => [.pointer (some ⟨zi, 0, none⟩)], fun _ => .int .i64 0, .read⟩,
            ⟨4, fun _ => [.func (.func 25) #[] #[], (yv b R), .int .i64 0], fun β => (β 4), .get⟩,
            ⟨5, fun β => [.func (.func 17) #[] #[], .pointer (some ⟨b, 0, none⟩), (β 4)], fun β => (β 5), .get⟩])
          (vs := [([], fun _ => .pointer (some ⟨zy, 0, none⟩)), ([], fun _ => .pointer (some ⟨b, 0, none⟩)), ([], fun _ => (yv b R)), ([], fun _ => .int .i64 0), ([4], fun l => l.headD undef), ([5], fun l => l.headD undef), ([5], fun l => l.headD undef)])
          (by kernel_rfl) ⟨by kernel_rfl, ⟨FreeV.d_load _ rfl rfl (fun β bs w h hd => load_24 (h.some (Q := fun V => V.cell? ⟨zy, 0, none⟩ = some (.pointer (some ⟨b, 0, none⟩))) ((hd 1 5 rfl).2 (.inl (by kernel_rfl))) (fun hb => (HY.out _ hb).1.c0) (fun u hu => HY2.out _ u hu))),
            FreeV.d_load _ rfl rfl (fun β bs w h hd => (HY.out _ (h.a ((hd 0 4 rfl).2 (.inl (by kernel_rfl))))).1.load),
            FreeV.d_load _ rfl rfl (fun β bs w h hd => load_3 (HY.out _ (h.a ((hd 0 4 rfl).2 (.inl (by kernel_rfl))))).2),
            FreeV.d_get2 _ rfl rfl enter_25 0 rfl (fun β bs w h hd => k2mid_one h ((hd 0 4 rfl).2 (.inr rfl)) ((hd 1 5 rfl).2 (.inl (by kernel_rfl))) HC1.out),
            FreeV.d_get2 _ rfl rfl enter_17 1 rfl (fun β bs w h hd => k2mid_two h ((hd 0 4 rfl).1 (by kernel_rfl)) ((hd 1 5 rfl).2 (.inr rfl)) (HC2.out _ _)),
            trivial⟩,
            fun β => by kernel_rfl, fun β => by kernel_rfl, by kernel_rfl, fun β => by kernel_rfl, by kernel_rfl⟩ k2mid_start (fun β => Free.from_ 67 [.pointer (some ⟨zy, 0, none⟩), .pointer (some ⟨b, 0, none⟩), (yv b R), .int .i64 0, (β 4), (β 5)] ++ [(8, (β 5))]) (fun β => by kernel_rfl) ?_
        intro β w18 h18
        obtain ⟨hb, ehb, hKH⟩ := h18.b2 rfl
        clear h18 HC1 HC2 HY HY2
        rw [FreeX.puts_append, Free.puts_from _ _ _ (Nat.le_of_ble_eq_true rfl)]
        simp only [List.take_succ_cons, List.take_zero, List.drop_succ_cons, List.drop_zero, List.cons_append, List.nil_append, List.length_cons, List.length_nil, Nat.reduceAdd]
        unfold Free.puts
        simp only [List.foldl_cons, List.foldl_nil]
        rw [ehb]
        obtain ⟨y0, y1, y2, y3, -⟩ := hKH.y
        have HKH := Lib.hid hKH
        clear hKH ehb
        obtain ⟨cb, hcb⟩ : ∃ q, q = w18.heap.size := ⟨_, rfl⟩
        have hnm := newmach_any (b := b) (capC zy zi) w18 ⟨_, _, rfl⟩
        rw [← hcb] at hnm
        unfold capC at hnm
        have HCB := Lib.hid hcb
        clear hcb
        go_wp2_with fail
        refine hnm.mono ?_
        rintro e wk ⟨rfl, hwk⟩
        have HK : Hid (KS w1 b c r zy zi gs gp R a0 a1' a2 a3' p0 p1 i F av ob (.pointer (some ⟨hb, 0, none⟩)) (.pointer (some ⟨cb, 0, none⟩)) wk) := by
          have h1 := HKH.out.close (Below.refl _ _)
          rw [← HCB.out] at h1
          have h2 : wk = w18.alloc (machObj b (capC zy zi)) := hwk
          rw [h2]
          exact h1
        clear hnm hwk HKH y0 y1 y2 y3 HCB
        go_wp2_with fail
        go_meet
        exact HK
    clear hcase
    obtain ⟨hv2, hhv2⟩ : ∃ q, q = u8 := ⟨_, rfl⟩
    obtain ⟨cv2, hcv2⟩ : ∃ q, q = u9 := ⟨_, rfl⟩
    subst hhv2
    subst hcv2
    obtain ⟨wk, hwk⟩ : ∃ w, w = wc := ⟨_, rfl⟩
    subst hwk
    have HK := hcut
    clear hcut
    have hwho := HK.out.who
    rcases hwho with rfl | ⟨ab, rfl⟩
    · have hnm := newmach_any (b := b) (capA zy) wk ⟨_, _, rfl⟩
      have hnd := HK.out.anew (W' := wk.alloc (machObj b (capA zy))) (Below.refl _ _)
      obtain ⟨y0, y1, y2, y3, -⟩ := HK.out.y
      have HND := Lib.hid hnd
      obtain ⟨ab, hab⟩ : ∃ q, q = wk.heap.size := ⟨_, rfl⟩
      rw [← hab] at HND
      rw [← hab] at hnm
      unfold capA at hnm
      clear hnd hab
      go_wp2_with fail
      refine hnm.mono ?_
      rintro e wm ⟨rfl, hwm⟩
      have hnd := HND.out
      have hwm2 : wm = wk.alloc (machObj b (capA zy)) := hwm
      rw [← hwm2] at hnd
      clear hnm hwm hwm2 HND HK y0 y1 y2 y3
      go_wp2_with fail
      refine hnd.mono ?_
      rintro e wm2 ⟨F2, rfl, rfl, hks⟩
      have HM := Lib.hid hks
      clear hnd hks
      have hge := HB1.out.trans (HM.out.ge.mono HB1.out.size)
      obtain ⟨pb, off, xn, ea, x1, hxn⟩ := HN.out.2.1.nat hge (k := i) (by rw [← HN.out.1]; exact HLT.out.1)
      subst ea
      have hxn2 : (xn : Int) ≤ 255 := by omega
      have hcase : xn % 5 = 0 ∨ xn % 5 = 1 ∨ xn % 5 = 2 ∨ xn % 5 = 3 ∨ xn % 5 = 4 := by omega
      obtain ⟨y0, y1, y2, y3, -⟩ := HM.out.y
      clear hge hxn
      rcases hcase with h5 | h5 | h5 | h5 | h5
      · have E : (xn : Int) % 5 = 0 := by omega
        have e0 : ((xn : Int) % 5 == 0) = true := by rw [E]; decide
        clear E h5
        have hst := HM.out.publish HT1.out (by have := HLT.out; omega)
        unfold yv at hst
        go_wp2_with fail
        refine hst.mono ?_
        rintro e wn ⟨rfl, hks⟩
        have HE := Lib.hid hks
        clear hst hks x1 y0 y1 y2 y3
        go_wp2_with fail
        first
          | (go_roundw
             case rel => exact ⟨i + 1, F2, by have := HLT.out; omega, rfl, rfl, by go_num, HE⟩
             case measure => simp [intOf]; omega)
          | (refine ⟨?_, ?measure⟩
             (repeat apply Exists.intro)
             refine ⟨?rel, rfl⟩
             case rel => exact ⟨i + 1, F2, by have := HLT.out; omega, rfl, rfl, by go_num, HE⟩
             case measure => simp [intOf]; omega)
      · have E : (xn : Int) % 5 = 1 := by omega
        have e0 : ((xn : Int) % 5 == 0) = false := by rw [E]; decide
        have e1 : ((xn : Int) % 5 == 1) = true := by rw [E]; decide
        clear E h5
        have hst := HM.out.opens (by have := HLT.out; omega)
        go_wp2_with fail
        refine hst.mono ?_
        rintro e wn ⟨⟨fb, rfl⟩, hks⟩
        have HE := Lib.hid hks
        clear hst hks x1 y0 y1 y2 y3
        go_wp2_with fail
        first
          | (go_roundw
             case rel => exact ⟨i + 1, F2, by have := HLT.out; omega, rfl, rfl, by go_num, HE⟩
             case measure => simp [intOf]; omega)
          | (refine ⟨?_, ?measure⟩
             (repeat apply Exists.intro)
             refine ⟨?rel, rfl⟩
             case rel => exact ⟨i + 1, F2, by have := HLT.out; omega, rfl, rfl, by go_num, HE⟩
             case measure => simp [intOf]; omega)
      · have E : (xn : Int) % 5 = 2 := by omega
        have e0 : ((xn : Int) % 5 == 0) = false := by rw [E]; decide
        have e1 : ((xn : Int) % 5 == 1) = false := by rw [E]; decide
        have e2 : ((xn : Int) % 5 == 2) = true := by rw [E]; decide
        clear E h5
        rcases HM.out.hc with ⟨rfl, rfl⟩ | ⟨hb, cb, rfl, rfl⟩
        · have HE := Lib.hid HM.out.next
          go_wp2_with fail
          first
            | (go_roundw
               case rel => exact ⟨i + 1, F2, by have := HLT.out; omega, rfl, rfl, by go_num, HE⟩
               case measure => simp [intOf]; omega)
            | (refine ⟨?_, ?measure⟩
               (repeat apply Exists.intro)
               refine ⟨?rel, rfl⟩
               case rel => exact ⟨i + 1, F2, by have := HLT.out; omega, rfl, rfl, by go_num, HE⟩
               case measure => simp [intOf]; omega)
        · have hst := HM.out.holds (by have := HLT.out; omega)
          go_wp2_with fail
          refine hst.mono ?_
          rintro e wn ⟨⟨fb, rfl⟩, hks⟩
          have HE := Lib.hid hks
          clear hst hks x1 y0 y1 y2 y3
          go_wp2_with fail
          first
            | (go_roundw
               case rel => exact ⟨i + 1, F2, by have := HLT.out; omega, rfl, rfl, by go_num, HE⟩
               case measure => simp [intOf]; omega)
            | (refine ⟨?_, ?measure⟩
               (repeat apply Exists.intro)
               refine ⟨?rel, rfl⟩
               case rel => exact ⟨i + 1, F2, by have := HLT.out; omega, rfl, rfl, by go_num, HE⟩
               case measure => simp [intOf]; omega)
      · have E : (xn : Int) % 5 = 3 := by omega
        have e0 : ((xn : Int) % 5 == 0) = false := by rw [E]; decide
        have e1 : ((xn : Int) % 5 == 1) = false := by rw [E]; decide
        have e2 : ((xn : Int) % 5 == 2) = false := by rw [E]; decide
        have e3 : ((xn : Int) % 5 == 3) = true := by rw [E]; decide
        clear E h5
        rcases HM.out.hc with ⟨rfl, rfl⟩ | ⟨hb, cb, rfl, rfl⟩
        · have HE := Lib.hid HM.out.next
          go_wp2_with fail
          first
            | (go_roundw
               case rel => exact ⟨i + 1, F2, by have := HLT.out; omega, rfl, rfl, by go_num, HE⟩
               case measure => simp [intOf]; omega)
            | (refine ⟨?_, ?measure⟩
               (repeat apply Exists.intro)
               refine ⟨?rel, rfl⟩
               case rel => exact ⟨i + 1, F2, by have := HLT.out; omega, rfl, rfl, by go_num, HE⟩
               case measure => simp [intOf]; omega)
        · have hst := HM.out.closes (by have := HLT.out; omega)
          go_wp2_with fail
          refine hst.mono ?_
          rintro e wn ⟨⟨fb, rfl⟩, hks⟩
          have HE := Lib.hid hks
          clear hst hks x1 y0 y1 y2 y3
          go_wp2_with fail
          first
            | (go_roundw
               case rel => exact ⟨i + 1, F2, by have := HLT.out; omega, rfl, rfl, by go_num, HE⟩
               case measure => simp [intOf]; omega)
            | (refine ⟨?_, ?measure⟩
               (repeat apply Exists.intro)
               refine ⟨?rel, rfl⟩
               case rel => exact ⟨i + 1, F2, by have := HLT.out; omega, rfl, rfl, by go_num, HE⟩
               case measure => simp [intOf]; omega)
      · have E : (xn : Int) % 5 = 4 := by omega
        have e0 : ((xn : Int) % 5 == 0) = false := by rw [E]; decide
        have e1 : ((xn : Int) % 5 == 1) = false := by rw [E]; decide
        have e2 : ((xn : Int) % 5 == 2) = false := by rw [E]; decide
        have e3 : ((xn : Int) % 5 == 3) = false := by rw [E]; decide
        clear E h5
        have hst := HM.out.asks (by have := HLT.out; omega)
        go_wp2_with fail
        refine hst.mono ?_
        rintro e wn ⟨fb, rfl, hks, hend⟩
        cases fb with
        | false =>
          have HE := Lib.hid hks
          clear hst hks hend x1 y0 y1 y2 y3
          go_wp2_with fail
          first
            | (go_roundw
               case rel => exact ⟨i + 1, F2, by have := HLT.out; omega, rfl, rfl, by go_num, HE⟩
               case measure => simp [intOf]; omega)
            | (refine ⟨?_, ?measure⟩
               (repeat apply Exists.intro)
               refine ⟨?rel, rfl⟩
               case rel => exact ⟨i + 1, F2, by have := HLT.out; omega, rfl, rfl, by go_num, HE⟩
               case measure => simp [intOf]; omega)
        | true =>
          obtain ⟨n, hout0, hnd⟩ := hend rfl
          have HE := Lib.hid hks.drop
          clear hks hend
          have hout := hout0
          go_wp2_with fail
          refine hout.mono ?_
          rintro e wo ⟨rfl, rfl⟩
          go_wp2_with fail
          refine hnd.mono ?_
          rintro e wo ⟨tw, rfl, rfl, htold⟩
          have HTo := Lib.hid htold
          clear hout hout0 hnd htold hst x1 y0 y1 y2 y3
          by_cases hF : 0 < F2
          · by_cases hto : 0 < tw
            · obtain ⟨e1, e2, e3⟩ := HTo.out hF hto
              subst e1
              have e4 : ¬ tw - 1 < n := by omega
              clear HTo
              go_wp2_with fail
              first
                | (go_roundw
                   case rel => exact ⟨i + 1, tw, by have := HLT.out; omega, rfl, rfl, by go_num, HE⟩
                   case measure => simp [intOf]; omega)
                | (refine ⟨?_, ?measure⟩
                   (repeat apply Exists.intro)
                   refine ⟨?rel, rfl⟩
                   case rel => exact ⟨i + 1, tw, by have := HLT.out; omega, rfl, rfl, by go_num, HE⟩
                   case measure => simp [intOf]; omega)
            · go_wp2_with fail
              first
                | (go_roundw
                   case rel => exact ⟨i + 1, F2, by have := HLT.out; omega, rfl, rfl, by go_num, HE⟩
                   case measure => simp [intOf]; omega)
                | (refine ⟨?_, ?measure⟩
                   (repeat apply Exists.intro)
                   refine ⟨?rel, rfl⟩
                   case rel => exact ⟨i + 1, F2, by have := HLT.out; omega, rfl, rfl, by go_num, HE⟩
                   case measure => simp [intOf]; omega)
          · go_wp2_with fail
            first
              | (go_roundw
                 case rel => exact ⟨i + 1, F2, by have := HLT.out; omega, rfl, rfl, by go_num, HE⟩
                 case measure => simp [intOf]; omega)
              | (refine ⟨?_, ?measure⟩
                 (repeat apply Exists.intro)
                 refine ⟨?rel, rfl⟩
                 case rel => exact ⟨i + 1, F2, by have := HLT.out; omega, rfl, rfl, by go_num, HE⟩
                 case measure => simp [intOf]; omega)
    · have HM := HK
      clear HK
      have hge := HB1.out.trans (HM.out.ge.mono HB1.out.size)
      obtain ⟨pb, off, xn, ea, x1, hxn⟩ := HN.out.2.1.nat hge (k := i) (by rw [← HN.out.1]; exact HLT.out.1)
      subst ea
      have hxn2 : (xn : Int) ≤ 255 := by omega
      have hcase : xn % 5 = 0 ∨ xn % 5 = 1 ∨ xn % 5 = 2 ∨ xn % 5 = 3 ∨ xn % 5 = 4 := by omega
      obtain ⟨y0, y1, y2, y3, -⟩ := HM.out.y
      clear hge hxn
      rcases hcase with h5 | h5 | h5 | h5 | h5
      · have E : (xn : Int) % 5 = 0 := by omega
        have e0 : ((xn : Int) % 5 == 0) = true := by rw [E]; decide
        clear E h5
        have hst := HM.out.publish HT1.out (by have := HLT.out; omega)
        unfold yv at hst
        go_wp2_with fail
        refine hst.mono ?_
        rintro e wn ⟨rfl, hks⟩
        have HE := Lib.hid hks
        clear hst hks x1 y0 y1 y2 y3
        go_wp2_with fail
        first
          | (go_roundw
             case rel => exact ⟨i + 1, F, by have := HLT.out; omega, rfl, rfl, by go_num, HE⟩
             case measure => simp [intOf]; omega)
          | (refine ⟨?_, ?measure⟩
             (repeat apply Exists.intro)
             refine ⟨?rel, rfl⟩
             case rel => exact ⟨i + 1, F, by have := HLT.out; omega, rfl, rfl, by go_num, HE⟩
             case measure => simp [intOf]; omega)
      · have E : (xn : Int) % 5 = 1 := by omega
        have e0 : ((xn : Int) % 5 == 0) = false := by rw [E]; decide
        have e1 : ((xn : Int) % 5 == 1) = true := by rw [E]; decide
        clear E h5
        have hst := HM.out.opens (by have := HLT.out; omega)
        go_wp2_with fail
        refine hst.mono ?_
        rintro e wn ⟨⟨fb, rfl⟩, hks⟩
        have HE := Lib.hid hks
        clear hst hks x1 y0 y1 y2 y3
        go_wp2_with fail
        first
          | (go_roundw
             case rel => exact ⟨i + 1, F, by have := HLT.out; omega, rfl, rfl, by go_num, HE⟩
             case measure => simp [intOf]; omega)
          | (refine ⟨?_, ?measure⟩
             (repeat apply Exists.intro)
             refine ⟨?rel, rfl⟩
             case rel => exact ⟨i + 1, F, by have := HLT.out; omega, rfl, rfl, by go_num, HE⟩
             case measure => simp [intOf]; omega)
      · have E : (xn : Int) % 5 = 2 := by omega
        have e0 : ((xn : Int) % 5 == 0) = false := by rw [E]; decide
        have e1 : ((xn : Int) % 5 == 1) = false := by rw [E]; decide
        have e2 : ((xn : Int) % 5 == 2) = true := by rw [E]; decide
        clear E h5
        rcases HM.out.hc with ⟨rfl, rfl⟩ | ⟨hb, cb, rfl, rfl⟩
        · have HE := Lib.hid HM.out.next
          go_wp2_with fail
          first
            | (go_roundw
               case rel => exact ⟨i + 1, F, by have := HLT.out; omega, rfl, rfl, by go_num, HE⟩
               case measure => simp [intOf]; omega)
            | (refine ⟨?_, ?measure⟩
               (repeat apply Exists.intro)
               refine ⟨?rel, rfl⟩
               case rel => exact ⟨i + 1, F, by have := HLT.out; omega, rfl, rfl, by go_num, HE⟩
               case measure => simp [intOf]; omega)
        · have hst := HM.out.holds (by have := HLT.out; omega)
          go_wp2_with fail
          refine hst.mono ?_
          rintro e wn ⟨⟨fb, rfl⟩, hks⟩
          have HE := Lib.hid hks
          clear hst hks x1 y0 y1 y2 y3
          go_wp2_with fail
          first
            | (go_roundw
               case rel => exact ⟨i + 1, F, by have := HLT.out; omega, rfl, rfl, by go_num, HE⟩
               case measure => simp [intOf]; omega)
            | (refine ⟨?_, ?measure⟩
               (repeat apply Exists.intro)
               refine ⟨?rel, rfl⟩
               case rel => exact ⟨i + 1, F, by have := HLT.out; omega, rfl, rfl, by go_num, HE⟩
               case measure => simp [intOf]; omega)
      · have E : (xn : Int) % 5 = 3 := by omega
        have e0 : ((xn : Int) % 5 == 0) = false := by rw [E]; decide
        have e1 : ((xn : Int) % 5 == 1) = false := by rw [E]; decide
        have e2 : ((xn : Int) % 5 == 2) = false := by rw [E]; decide
        have e3 : ((xn : Int) % 5 == 3) = true := by rw [E]; decide
        clear E h5
        rcases HM.out.hc with ⟨rfl, rfl⟩ | ⟨hb, cb, rfl, rfl⟩
        · have HE := Lib.hid HM.out.next
          go_wp2_with fail
          first
            | (go_roundw
               case rel => exact ⟨i + 1, F, by have := HLT.out; omega, rfl, rfl, by go_num, HE⟩
               case measure => simp [intOf]; omega)
            | (refine ⟨?_, ?measure⟩
               (repeat apply Exists.intro)
               refine ⟨?rel, rfl⟩
               case rel => exact ⟨i + 1, F, by have := HLT.out; omega, rfl, rfl, by go_num, HE⟩
               case measure => simp [intOf]; omega)
        · have hst := HM.out.closes (by have := HLT.out; omega)
          go_wp2_with fail
          refine hst.mono ?_
          rintro e wn ⟨⟨fb, rfl⟩, hks⟩
          have HE := Lib.hid hks
          clear hst hks x1 y0 y1 y2 y3
          go_wp2_with fail
          first
            | (go_roundw
               case rel => exact ⟨i + 1, F, by have := HLT.out; omega, rfl, rfl, by go_num, HE⟩
               case measure => simp [intOf]; omega)
            | (refine ⟨?_, ?measure⟩
               (repeat apply Exists.intro)
               refine ⟨?rel, rfl⟩
               case rel => exact ⟨i + 1, F, by have := HLT.out; omega, rfl, rfl, by go_num, HE⟩
               case measure => simp [intOf]; omega)
      · have E : (xn : Int) % 5 = 4 := by omega
        have e0 : ((xn : Int) % 5 == 0) = false := by rw [E]; decide
        have e1 : ((xn : Int) % 5 == 1) = false := by rw [E]; decide
        have e2 : ((xn : Int) % 5 == 2) = false := by rw [E]; decide
        have e3 : ((xn : Int) % 5 == 3) = false := by rw [E]; decide
        clear E h5
        have hst := HM.out.asks (by have := HLT.out; omega)
        go_wp2_with fail
        refine hst.mono ?_
        rintro e wn ⟨fb, rfl, hks, hend⟩
        cases fb with
        | false =>
          have HE := Lib.hid hks
          clear hst hks hend x1 y0 y1 y2 y3
          go_wp2_with fail
          first
            | (go_roundw
               case rel => exact ⟨i + 1, F, by have := HLT.out; omega, rfl, rfl, by go_num, HE⟩
               case measure => simp [intOf]; omega)
            | (refine ⟨?_, ?measure⟩
               (repeat apply Exists.intro)
               refine ⟨?rel, rfl⟩
               case rel => exact ⟨i + 1, F, by have := HLT.out; omega, rfl, rfl, by go_num, HE⟩
               case measure => simp [intOf]; omega)
        | true =>
          obtain ⟨n, hout0, hnd⟩ := hend rfl
          have HE := Lib.hid hks.drop
          clear hks hend
          have hout := hout0
          go_wp2_with fail
          refine hout.mono ?_
          rintro e wo ⟨rfl, rfl⟩
          go_wp2_with fail
          refine hnd.mono ?_
          rintro e wo ⟨tw, rfl, rfl, htold⟩
          have HTo := Lib.hid htold
          clear hout hout0 hnd htold hst x1 y0 y1 y2 y3
          by_cases hF : 0 < F
          · by_cases hto : 0 < tw
            · obtain ⟨e1, e2, e3⟩ := HTo.out hF hto
              subst e1
              have e4 : ¬ tw - 1 < n := by omega
              clear HTo
              go_wp2_with fail
              first
                | (go_roundw
                   case rel => exact ⟨i + 1, tw, by have := HLT.out; omega, rfl, rfl, by go_num, HE⟩
                   case measure => simp [intOf]; omega)
                | (refine ⟨?_, ?measure⟩
                   (repeat apply Exists.intro)
                   refine ⟨?rel, rfl⟩
                   case rel => exact ⟨i + 1, tw, by have := HLT.out; omega, rfl, rfl, by go_num, HE⟩
                   case measure => simp [intOf]; omega)
            · go_wp2_with fail
              first
                | (go_roundw
                   case rel => exact ⟨i + 1, F, by have := HLT.out; omega, rfl, rfl, by go_num, HE⟩
                   case measure => simp [intOf]; omega)
                | (refine ⟨?_, ?measure⟩
                   (repeat apply Exists.intro)
                   refine ⟨?rel, rfl⟩
                   case rel => exact ⟨i + 1, F, by have := HLT.out; omega, rfl, rfl, by go_num, HE⟩
                   case measure => simp [intOf]; omega)
          · go_wp2_with fail
            first
              | (go_roundw
                 case rel => exact ⟨i + 1, F, by have := HLT.out; omega, rfl, rfl, by go_num, HE⟩
                 case measure => simp [intOf]; omega)
              | (refine ⟨?_, ?measure⟩
                 (repeat apply Exists.intro)
                 refine ⟨?rel, rfl⟩
                 case rel => exact ⟨i + 1, F, by have := HLT.out; omega, rfl, rfl, by go_num, HE⟩
                 case measure => simp [intOf]; omega)
theorem keepsLaw (a1 : Option Addr) (l1 : List Int) (cap1 : Nat) {W : World} (hl1 : Bys W a1 l1) (f : Int) (hf : (Lit.int .u8 f).wf = true) (_W : World) (hT : TabAt W) :
    Calls Tryd.prog 4 #[.slice a1 l1.length cap1, .int .u8 f] W fun e w' => e = .returned (.bool true) ∧ Below W.heap.size W w' := by
  obtain ⟨h0, h1⟩ := wf8 hf
  obtain ⟨n, rfl⟩ : ∃ n : Nat, f = (n : Int) := ⟨f.toNat, by omega⟩
  exact keeps_law W hT n (by omega) a1 l1 cap1 hl1
end Go.Proofs.YtgjkkbgdkdipgaaDoor
