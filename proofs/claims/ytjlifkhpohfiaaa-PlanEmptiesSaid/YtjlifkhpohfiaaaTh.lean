/- What the law's towers and the reference's Leads answer. Condition: 1 to 1000 nodes. -/
import Derived.Test.YtjlifkhpohfiaaaTg
namespace Go.Proofs.Ytjlifkhpohfiaaa
open Go.RowKit Go.Op
set_option maxRecDepth 100000

/-- An append that is a region's last effect. -/
def PApp (w2 : World) (base : Nat) (e : TypeId) (size ja m : Nat) (xs : List Value) (β : Nat → Value) (W : World) : Prop := ∃ a' c', β ja = .slice a' (m + 1) c' ∧ W.ownsRow base e size (.slice a' (m + 1) c') (m + 1) xs ∧ Below base w2 W
theorem app_last {T e : TypeId} {size : Nat} (K : SK T e size) {w2 W : World} {base jr ja m c : Nat} {row xs : List Value} {a : Option Addr} {bs : List Bool} {β : Nat → Value} (hS : SGL w2 [(jr, FRow row)] 1 (PApp w2 base e size ja m (xs ++ row)) bs β W) (b1 : bs[1]? = some false) (b0 : bs[0]? = some true)
    (ho : w2.ownsRow base e size (.slice a m c) m xs ∧ base ≤ w2.heap.size) (h1 : ∀ u ∈ row, u.oneCell' = true) (hl : row.length = size) (hm : m + 1 ≤ 1000000) (_ : jr ≠ ja) (ty : TypeId) :
    ∃ u w', (Builtin.append_ #[T, T] ty #[.slice a m c, β jr]).run Try.prog W = .ok u w' ∧ SGL w2 [(jr, FRow row)] 1 (PApp w2 base e size ja m (xs ++ row)) (bs.set 1 true) (FreeV.upd β ja u) w' := by
  obtain ⟨iv, h⟩ := hS.pre b1
  obtain ⟨g, e1, -, hr⟩ := h.at_ 0 jr _ rfl b0
  obtain ⟨a', c', w', r1, r2, r3, r4, -⟩ := K.app (own_later ho.1 h.bel) (Nat.le_trans ho.2 h.bel.size) g row hr hl h1 hm ty
  exact ⟨_, w', by rw [e1]; exact r1, SGL.last b1 ⟨a', c', FreeV.upd_same _ _, r2, (h.bel.mono ho.2).trans r4⟩⟩
/-- The reference's towers. -/
abbrev Rt := Nat × Bool
def rtc (x : Rt) : List Value := [.int .i64 (x.1 : Int), .bool x.2]
def rtv (h : Nat) (b : Bool) : Value := .agg #[.int .i64 (h : Int), .bool b]
def rtRow (l : List Rt) : List Value := l.flatMap rtc
theorem rtc_one (x : Rt) : ∀ u ∈ rtc x, u.oneCell' = true := by intro u hu; simp [rtc] at hu; rcases hu with rfl | rfl <;> rfl
theorem build_42 (h : Nat) (b : Bool) (w : World) : (Instr.build 42 #[(0, .int .i64 (h : Int)), (1, .bool b)]).run Try.prog w = .ok (rtv h b) w := by
  unfold rtv
  go_simp
theorem row30 (w : World) (h : Nat) (b : Bool) : (Instr.buildSlice 30 1 #[(0, rtv h b)]).run Try.prog w = .ok (.slice (some ⟨w.heap.size, 0, none⟩) 1 1) (w.alloc (.cells (rtc (h, b)).toArray 42)) := by
  unfold rtv rtc
  go_simp
theorem sk30 : SK 30 42 2 := sk_of (bytes := 16) (z := .agg #[.int .i64 0, .bool false]) Try.underlying30 (by kernel_rfl) rfl (by decide) (by decide)
theorem gtr0 {i : Nat} {b : Bool} (h : decide (0 < i) = b) {xo : Operand} (w : World) : (eqGuard .gtr 3 xo (.const (.int .i64 0)) (.int .i64 (i : Int)) (.int .i64 0)).run Try.prog w = .ok () w ∧ (binOp .gtr 3 (.int .i64 (i : Int)) (.int .i64 0)).run Try.prog w = .ok (.bool b) w := by
  have h2 : decide ((0 : Int) < (i : Int)) = b := by rw [← h]; congr 1; simp
  exact cmp_gtr3 _ _ _ h2
theorem at_rt (g o n cp k : Nat) (h : k < n) (w : World) : (Instr.indexAt 30 (.slice (some ⟨g, o, none⟩) n cp) (.int .i64 (k : Int))).run Try.prog w = .ok (.pointer (some ⟨g, o + k * 2, none⟩)) w := by
  have h1 : (k : Int) < (n : Int) := by omega
  go_simp
def rtI (l : List Spc) (i : Nat) : Rt := ((hts l).getD i 0, goneB l i)
def rtL (l : List Spc) (k : Nat) : List Rt := (List.range k).map (rtI l)
theorem rtL_succ (l : List Spc) (k : Nat) : rtL l (k + 1) = rtL l k ++ [rtI l k] := by simp [rtL, List.range_succ]
theorem rtL_length (l : List Spc) (k : Nat) : (rtL l k).length = k := by simp [rtL]
theorem rtRow_snoc (l : List Rt) (x : Rt) : rtRow (l ++ [x]) = rtRow l ++ rtc x := by simp [rtRow]
set_option maxHeartbeats 4000000 in
theorem ltowers_any (w : World) (a : Option Addr) (cap : Nat) (l : List Spc) (h : Specs w a l) (h0 : 0 < l.length) (hl : l.length ≤ 1000) :
    Calls Try.prog 11 #[.slice a l.length cap] w fun e w' => ∃ ta tc, e = .returned (.slice ta l.length tc) ∧ RowAt w' ta (rtRow (rtL l l.length)) ∧ l.length ≤ tc ∧ Below w.heap.size w w' := by
  have hh := heights_any w a cap l h hl
  obtain ⟨n, hn⟩ : ∃ n, n = l.length := ⟨_, rfl⟩
  have HN := Lib.hid hn
  have HR := Lib.hid h
  rw [← hn] at hh hl h0 ⊢
  have hn2 : (n : Int) ≤ 1000 := by omega
  have mixed : Try.prog.follows .mixedOrders = true := by kernel_rfl
  clear hn h
  go_enter Try.func11, Try.ntmps11
  go_wp2_with fail
  refine hh.mono ?_
  rintro e w1 ⟨hv, rfl, ho, hb1⟩
  obtain ⟨ha, hc, rfl, hac, hrw⟩ := own_row ho
  obtain ⟨gh, oh, rfl, hgl, hrh⟩ : ∃ gh oh, ha = some ⟨gh, oh, none⟩ ∧ gh < w1.heap.size ∧ w1.rangeAt gh oh (ints (nz (hts l))) := by
    rcases hrw with e | h
    · have h1 := ho.1
      rw [e] at h1
      simp at h1
      omega
    · exact h
  obtain ⟨B0, hB0⟩ : ∃ B, B = w1.heap.size := ⟨_, rfl⟩
  have HH := Lib.hid (⟨hgl, hrh⟩ : _ ∧ _)
  have HB1 := Lib.hid (⟨hb1, hB0⟩ : _ ∧ _)
  clear hh ho hrw hb1 hgl hrh hB0
  go_wp2_with fail
  go_loopw [4, 5] (fun ov iv wr => ∃ (i : Nat) (oa : Option Addr) (oc : Nat) (R : List Rt), iv = .int .i64 (i : Int) ∧ ov = .slice oa i oc ∧ i ≤ n ∧ Hid (R = rtL l i ∧ Below B0 w1 wr ∧ wr.ownsRow B0 42 2 (.slice oa i oc) i (rtRow R))) (fun _ iv _ => n - (intOf iv).toNat)
  case atStart => exact ⟨0, none, 0, [], rfl, rfl, Nat.zero_le _, Lib.hid ⟨rfl, Below.refl _ _, World.ownsRow_nil _ _ _ _⟩⟩
  case round =>
    obtain ⟨i, oa, oc, R, rfl, rfl, hi, HX⟩ := hrel
    by_cases hlt : i < n
    · have hlt2 : (i : Int) < (n : Int) := by omega
      obtain ⟨x, hx⟩ : ∃ x, l[i]? = some x := ⟨_, List.getElem?_eq_getElem (by rw [← HN.out]; exact hlt)⟩
      obtain ⟨H, hH⟩ : ∃ H, (hts l)[i]? = some H := ⟨_, List.getElem?_eq_getElem (by rw [hts_length, ← HN.out]; exact hlt)⟩
      have hbw := HB1.out.1.trans (HX.out.2.1.mono (by rw [HB1.out.2]; exact HB1.out.1.size))
      obtain ⟨g, o, ea, hg, hr⟩ := (HR.out.later hbw).at_ hx
      have hBw : B0 ≤ wr.heap.size := by rw [HB1.out.2]; exact HX.out.2.1.size
      have cg := hr 5 _ rfl
      have chh : wr.cell? ⟨gh, oh + i, none⟩ = some (.int .i64 (H : Int)) := by
        rw [HX.out.2.1.cell (p := ⟨gh, oh + i, none⟩) (by rw [HB1.out.2]; exact HH.out.1)]
        exact HH.out.2 i _ (ints_get (nz_get hH))
      have hghl : gh < wr.heap.size := by have := HH.out.1; have := HB1.out.2; omega
      have HS : Hid (∀ W, Below wr.heap.size wr W → W.cell? ⟨gh, oh + i, none⟩ = some (.int .i64 (H : Int)) ∧ W.cell? ⟨g, o + i * 6 + 5, none⟩ = some (.bool x.gone)) := Lib.hid fun W hW => ⟨by rw [hW.cell (p := ⟨gh, oh + i, none⟩) hghl]; exact chh, by rw [hW.cell (p := ⟨g, o + i * 6 + 5, none⟩) hg]; exact cg⟩
      have HO : Hid (wr.ownsRow B0 42 2 (.slice oa i oc) i (rtRow R) ∧ B0 ≤ wr.heap.size) := Lib.hid ⟨HX.out.2.2, hBw⟩
      have HK : Hid (i < n ∧ i + 1 ≤ 1000000) := Lib.hid ⟨hlt, by omega⟩
      have HE : Hid (∀ (b : Bool) (W : World) (a' : Option Addr) (c' : Nat), b = (x.gone && decide (0 < i)) → Below B0 wr W → W.ownsRow B0 42 2 (.slice a' (i + 1) c') (i + 1) (rtRow R ++ rtc (H, b)) → Hid (R ++ [(H, b)] = rtL l (i + 1) ∧ Below B0 w1 W ∧ W.ownsRow B0 42 2 (.slice a' (i + 1) c') (i + 1) (rtRow (R ++ [(H, b)])))) := Lib.hid fun b W a' c' hb h1 h2 => by
        refine Lib.hid ⟨?_, HX.out.2.1.trans h1, by rw [rtRow_snoc]; exact h2⟩
        rw [rtL_succ, ← HX.out.1, rtI, List.getD_eq_getElem?_getD, hH, hb]
        unfold goneB
        rw [hx]; rfl
      subst ea
      clear hx hH hbw hg hr cg chh hghl HX hBw
      cases hgx : x.gone with
      | false =>
        rw [hgx] at HS HE
        go_wp2_with fail
        refine FreeV.region_puts (S := SGL wr [(15, FRow (rtc (H, false)))] 1 (PApp wr B0 42 2 16 i (rtRow R ++ rtc (H, false)))) (effs := [15, 16])
          (tab := [⟨3, fun _ => [.slice (some ⟨gh, oh, none⟩) n hc, .int .i64 (i : Int)], fun _ => .pointer (some ⟨gh, oh + i, none⟩), .pure⟩,
            ⟨4, fun _ => [.pointer (some ⟨gh, oh + i, none⟩)], fun _ => .int .i64 (H : Int), .read⟩,
            ⟨7, fun _ => [.slice (some ⟨g, o, none⟩) n cap, .int .i64 (i : Int)], fun _ => .pointer (some ⟨g, o + i * 6, none⟩), .pure⟩,
            ⟨9, fun _ => [.pointer (some ⟨g, o + i * 6 + 5, none⟩)], fun _ => .bool false, .read⟩,
            ⟨14, fun _ => [.int .i64 (H : Int), .bool false], fun _ => (rtv H false), .pure⟩,
            ⟨15, fun _ => [(rtv H false)], fun β => (β 15), .eff⟩,
            ⟨16, fun β => [.slice oa i oc, (β 15)], fun β => (β 16), .eff⟩])
          (vs := [([], fun _ => .slice oa i oc), ([], fun _ => .slice (some ⟨gh, oh, none⟩) n hc), ([], fun _ => .int .i64 (i : Int)), ([], fun _ => .pointer (some ⟨gh, oh + i, none⟩)), ([], fun _ => .int .i64 (H : Int)), ([], fun _ => .slice (some ⟨g, o, none⟩) n cap), ([], fun _ => .int .i64 (i : Int)), ([], fun _ => .pointer (some ⟨g, o + i * 6, none⟩)), ([], fun _ => .pointer (some ⟨g, o + i * 6 + 5, none⟩)), ([], fun _ => .bool false), ([], fun _ => .bool false), ([], fun _ => undef), ([], fun _ => undef), ([], fun _ => .bool false), ([], fun _ => (rtv H false)), ([15], fun l => (l.headD undef)), ([16], fun l => (l.headD undef)), ([16], fun l => (l.headD undef))])
          (by kernel_rfl) ⟨by kernel_rfl, ⟨FreeV.d_at _ rfl rfl (fun _ W => at_35 gh oh n hc i HK.out.1 W),
            FreeV.d_load _ rfl rfl (fun β bs W hS hd => load_3 ((HS.out W (hS.bel ((hd 1 16 rfl).2 (.inl (by kernel_rfl))))).1)),
            FreeV.d_at _ rfl rfl (fun _ W => at_22 g o n cap i HK.out.1 W),
            FreeV.d_load _ rfl rfl (fun β bs W hS hd => load_4 ((HS.out W (hS.bel ((hd 1 16 rfl).2 (.inl (by kernel_rfl))))).2)),
            FreeV.d_build2 _ rfl rfl (fun _ W => build_42 _ _ W),
            FreeV.d_row1 _ rfl rfl 0 rfl (fun β bs W hS hd => ⟨_, _, row30 W _ _, hS.step ((hd 1 16 rfl).2 (.inl (by kernel_rfl))) (by decide) rfl (al_below _ _) (frow_new W _ 42)⟩),
            FreeV.d_app _ rfl rfl 1 rfl (fun β bs ty W hS hd => app_last sk30 hS ((hd 1 16 rfl).2 (.inr rfl)) ((hd 0 15 rfl).1 (by kernel_rfl)) HO.out (rtc_one _) rfl HK.out.2 (by decide) ty),
            trivial⟩,
            fun β => by kernel_rfl, fun β => by kernel_rfl, by kernel_rfl, fun β => by kernel_rfl, by kernel_rfl⟩ (SGL.start 2 (by decide) (st1 (frow_st _)) (by simp)) (fun β => Free.from_ 14 [.slice oa i oc, .slice (some ⟨gh, oh, none⟩) n hc, .int .i64 (i : Int), .pointer (some ⟨gh, oh + i, none⟩), .int .i64 (H : Int), .slice (some ⟨g, o, none⟩) n cap, .int .i64 (i : Int), .pointer (some ⟨g, o + i * 6, none⟩), .pointer (some ⟨g, o + i * 6 + 5, none⟩), .bool false, .bool false, undef, undef, .bool false, (rtv H false), (β 15), (β 16)] ++ [(4, (β 16))]) (fun β => by kernel_rfl) ?_
        intro β w4 h4
        rw [FreeX.puts_append, Free.puts_from _ _ _ (Nat.le_of_ble_eq_true rfl)]
        simp only [List.take_succ_cons, List.take_zero, List.drop_succ_cons, List.drop_zero, List.cons_append, List.nil_append, List.length_cons, List.length_nil, Nat.reduceAdd]
        unfold Free.puts
        simp only [List.foldl_cons, List.foldl_nil]
        obtain ⟨a', c', e16, hO, hB⟩ := h4.fin rfl
        rw [e16]
        have HX3 := HE.out false w4 a' c' rfl hB hO
        clear h4 e16 hO hB HE HS HO HK
        go_wp2_with fail
        first
          | exact ⟨⟨i + 1, a', c', _, by simp, rfl, by omega, HX3⟩, by simp only [intOf]; omega⟩
          | (go_roundw
             case rel => exact ⟨i + 1, a', c', _, by simp, rfl, by omega, HX3⟩
             case measure => simp [intOf]; omega)
      | true =>
        rw [hgx] at HS HE
        by_cases hp : 0 < i
        · have HP : Hid (decide (0 < i) = true) := Lib.hid (decide_eq_true hp)
          clear hp
          go_wp2_with fail
          refine FreeV.region_puts (S := SGL wr [(15, FRow (rtc (H, true)))] 1 (PApp wr B0 42 2 16 i (rtRow R ++ rtc (H, true)))) (effs := [15, 16])
            (tab := [⟨3, fun _ => [.slice (some ⟨gh, oh, none⟩) n hc, .int .i64 (i : Int)], fun _ => .pointer (some ⟨gh, oh + i, none⟩), .pure⟩,
              ⟨4, fun _ => [.pointer (some ⟨gh, oh + i, none⟩)], fun _ => .int .i64 (H : Int), .read⟩,
              ⟨7, fun _ => [.slice (some ⟨g, o, none⟩) n cap, .int .i64 (i : Int)], fun _ => .pointer (some ⟨g, o + i * 6, none⟩), .pure⟩,
              ⟨9, fun _ => [.pointer (some ⟨g, o + i * 6 + 5, none⟩)], fun _ => .bool true, .read⟩,
              ⟨12, fun _ => [.int .i64 (i : Int), .int .i64 0], fun _ => .bool true, .pure⟩,
              ⟨14, fun _ => [.int .i64 (H : Int), .bool true], fun _ => (rtv H true), .pure⟩,
              ⟨15, fun _ => [(rtv H true)], fun β => (β 15), .eff⟩,
              ⟨16, fun β => [.slice oa i oc, (β 15)], fun β => (β 16), .eff⟩])
            (vs := [([], fun _ => .slice oa i oc), ([], fun _ => .slice (some ⟨gh, oh, none⟩) n hc), ([], fun _ => .int .i64 (i : Int)), ([], fun _ => .pointer (some ⟨gh, oh + i, none⟩)), ([], fun _ => .int .i64 (H : Int)), ([], fun _ => .slice (some ⟨g, o, none⟩) n cap), ([], fun _ => .int .i64 (i : Int)), ([], fun _ => .pointer (some ⟨g, o + i * 6, none⟩)), ([], fun _ => .pointer (some ⟨g, o + i * 6 + 5, none⟩)), ([], fun _ => .bool true), ([], fun _ => .bool true), ([], fun _ => .int .i64 (i : Int)), ([], fun _ => .bool true), ([], fun _ => .bool true), ([], fun _ => (rtv H true)), ([15], fun l => (l.headD undef)), ([16], fun l => (l.headD undef)), ([16], fun l => (l.headD undef))])
            (by kernel_rfl) ⟨by kernel_rfl, ⟨FreeV.d_at _ rfl rfl (fun _ W => at_35 gh oh n hc i HK.out.1 W),
              FreeV.d_load _ rfl rfl (fun β bs W hS hd => load_3 ((HS.out W (hS.bel ((hd 1 16 rfl).2 (.inl (by kernel_rfl))))).1)),
              FreeV.d_at _ rfl rfl (fun _ W => at_22 g o n cap i HK.out.1 W),
              FreeV.d_load _ rfl rfl (fun β bs W hS hd => load_4 ((HS.out W (hS.bel ((hd 1 16 rfl).2 (.inl (by kernel_rfl))))).2)),
              FreeV.d_binc _ rfl rfl (fun _ xo W => gtr0 (by exact HP.out) W),
              FreeV.d_build2 _ rfl rfl (fun _ W => build_42 _ _ W),
              FreeV.d_row1 _ rfl rfl 0 rfl (fun β bs W hS hd => ⟨_, _, row30 W _ _, hS.step ((hd 1 16 rfl).2 (.inl (by kernel_rfl))) (by decide) rfl (al_below _ _) (frow_new W _ 42)⟩),
              FreeV.d_app _ rfl rfl 1 rfl (fun β bs ty W hS hd => app_last sk30 hS ((hd 1 16 rfl).2 (.inr rfl)) ((hd 0 15 rfl).1 (by kernel_rfl)) HO.out (rtc_one _) rfl HK.out.2 (by decide) ty),
              trivial⟩,
              fun β => by kernel_rfl, fun β => by kernel_rfl, by kernel_rfl, fun β => by kernel_rfl, by kernel_rfl⟩ (SGL.start 2 (by decide) (st1 (frow_st _)) (by simp)) (fun β => Free.from_ 14 [.slice oa i oc, .slice (some ⟨gh, oh, none⟩) n hc, .int .i64 (i : Int), .pointer (some ⟨gh, oh + i, none⟩), .int .i64 (H : Int), .slice (some ⟨g, o, none⟩) n cap, .int .i64 (i : Int), .pointer (some ⟨g, o + i * 6, none⟩), .pointer (some ⟨g, o + i * 6 + 5, none⟩), .bool true, .bool true, .int .i64 (i : Int), .bool true, .bool true, (rtv H true), (β 15), (β 16)] ++ [(4, (β 16))]) (fun β => by kernel_rfl) ?_
          intro β w4 h4
          rw [FreeX.puts_append, Free.puts_from _ _ _ (Nat.le_of_ble_eq_true rfl)]
          simp only [List.take_succ_cons, List.take_zero, List.drop_succ_cons, List.drop_zero, List.cons_append, List.nil_append, List.length_cons, List.length_nil, Nat.reduceAdd]
          unfold Free.puts
          simp only [List.foldl_cons, List.foldl_nil]
          obtain ⟨a', c', e16, hO, hB⟩ := h4.fin rfl
          rw [e16]
          have HX3 := HE.out true w4 a' c' (by rw [HP.out]; rfl) hB hO
          clear h4 e16 hO hB HE HS HO HK
          go_wp2_with fail
          first
            | exact ⟨⟨i + 1, a', c', _, by simp, rfl, by omega, HX3⟩, by simp only [intOf]; omega⟩
            | (go_roundw
               case rel => exact ⟨i + 1, a', c', _, by simp, rfl, by omega, HX3⟩
               case measure => simp [intOf]; omega)
        · have HP : Hid (decide (0 < i) = false) := Lib.hid (decide_eq_false hp)
          clear hp
          go_wp2_with fail
          refine FreeV.region_puts (S := SGL wr [(15, FRow (rtc (H, false)))] 1 (PApp wr B0 42 2 16 i (rtRow R ++ rtc (H, false)))) (effs := [15, 16])
            (tab := [⟨3, fun _ => [.slice (some ⟨gh, oh, none⟩) n hc, .int .i64 (i : Int)], fun _ => .pointer (some ⟨gh, oh + i, none⟩), .pure⟩,
              ⟨4, fun _ => [.pointer (some ⟨gh, oh + i, none⟩)], fun _ => .int .i64 (H : Int), .read⟩,
              ⟨7, fun _ => [.slice (some ⟨g, o, none⟩) n cap, .int .i64 (i : Int)], fun _ => .pointer (some ⟨g, o + i * 6, none⟩), .pure⟩,
              ⟨9, fun _ => [.pointer (some ⟨g, o + i * 6 + 5, none⟩)], fun _ => .bool true, .read⟩,
              ⟨12, fun _ => [.int .i64 (i : Int), .int .i64 0], fun _ => .bool false, .pure⟩,
              ⟨14, fun _ => [.int .i64 (H : Int), .bool false], fun _ => (rtv H false), .pure⟩,
              ⟨15, fun _ => [(rtv H false)], fun β => (β 15), .eff⟩,
              ⟨16, fun β => [.slice oa i oc, (β 15)], fun β => (β 16), .eff⟩])
            (vs := [([], fun _ => .slice oa i oc), ([], fun _ => .slice (some ⟨gh, oh, none⟩) n hc), ([], fun _ => .int .i64 (i : Int)), ([], fun _ => .pointer (some ⟨gh, oh + i, none⟩)), ([], fun _ => .int .i64 (H : Int)), ([], fun _ => .slice (some ⟨g, o, none⟩) n cap), ([], fun _ => .int .i64 (i : Int)), ([], fun _ => .pointer (some ⟨g, o + i * 6, none⟩)), ([], fun _ => .pointer (some ⟨g, o + i * 6 + 5, none⟩)), ([], fun _ => .bool true), ([], fun _ => .bool true), ([], fun _ => .int .i64 (i : Int)), ([], fun _ => .bool false), ([], fun _ => .bool false), ([], fun _ => (rtv H false)), ([15], fun l => (l.headD undef)), ([16], fun l => (l.headD undef)), ([16], fun l => (l.headD undef))])
            (by kernel_rfl) ⟨by kernel_rfl, ⟨FreeV.d_at _ rfl rfl (fun _ W => at_35 gh oh n hc i HK.out.1 W),
              FreeV.d_load _ rfl rfl (fun β bs W hS hd => load_3 ((HS.out W (hS.bel ((hd 1 16 rfl).2 (.inl (by kernel_rfl))))).1)),
              FreeV.d_at _ rfl rfl (fun _ W => at_22 g o n cap i HK.out.1 W),
              FreeV.d_load _ rfl rfl (fun β bs W hS hd => load_4 ((HS.out W (hS.bel ((hd 1 16 rfl).2 (.inl (by kernel_rfl))))).2)),
              FreeV.d_binc _ rfl rfl (fun _ xo W => gtr0 (by exact HP.out) W),
              FreeV.d_build2 _ rfl rfl (fun _ W => build_42 _ _ W),
              FreeV.d_row1 _ rfl rfl 0 rfl (fun β bs W hS hd => ⟨_, _, row30 W _ _, hS.step ((hd 1 16 rfl).2 (.inl (by kernel_rfl))) (by decide) rfl (al_below _ _) (frow_new W _ 42)⟩),
              FreeV.d_app _ rfl rfl 1 rfl (fun β bs ty W hS hd => app_last sk30 hS ((hd 1 16 rfl).2 (.inr rfl)) ((hd 0 15 rfl).1 (by kernel_rfl)) HO.out (rtc_one _) rfl HK.out.2 (by decide) ty),
              trivial⟩,
              fun β => by kernel_rfl, fun β => by kernel_rfl, by kernel_rfl, fun β => by kernel_rfl, by kernel_rfl⟩ (SGL.start 2 (by decide) (st1 (frow_st _)) (by simp)) (fun β => Free.from_ 14 [.slice oa i oc, .slice (some ⟨gh, oh, none⟩) n hc, .int .i64 (i : Int), .pointer (some ⟨gh, oh + i, none⟩), .int .i64 (H : Int), .slice (some ⟨g, o, none⟩) n cap, .int .i64 (i : Int), .pointer (some ⟨g, o + i * 6, none⟩), .pointer (some ⟨g, o + i * 6 + 5, none⟩), .bool true, .bool true, .int .i64 (i : Int), .bool false, .bool false, (rtv H false), (β 15), (β 16)] ++ [(4, (β 16))]) (fun β => by kernel_rfl) ?_
          intro β w4 h4
          rw [FreeX.puts_append, Free.puts_from _ _ _ (Nat.le_of_ble_eq_true rfl)]
          simp only [List.take_succ_cons, List.take_zero, List.drop_succ_cons, List.drop_zero, List.cons_append, List.nil_append, List.length_cons, List.length_nil, Nat.reduceAdd]
          unfold Free.puts
          simp only [List.foldl_cons, List.foldl_nil]
          obtain ⟨a', c', e16, hO, hB⟩ := h4.fin rfl
          rw [e16]
          have HX3 := HE.out false w4 a' c' (by rw [HP.out]; rfl) hB hO
          clear h4 e16 hO hB HE HS HO HK
          go_wp2_with fail
          first
            | exact ⟨⟨i + 1, a', c', _, by simp, rfl, by omega, HX3⟩, by simp only [intOf]; omega⟩
            | (go_roundw
               case rel => exact ⟨i + 1, a', c', _, by simp, rfl, by omega, HX3⟩
               case measure => simp [intOf]; omega)
    · have hlt2 : ¬ (i : Int) < (n : Int) := by omega
      obtain rfl : i = n := by omega
      have HE : Hid (∃ ta tc, Value.slice oa i oc = .slice ta i tc ∧ RowAt wr ta (rtRow (rtL l i)) ∧ i ≤ tc ∧ Below w.heap.size w wr) := Lib.hid (by
        obtain ⟨q1, q2, q3⟩ := HX.out
        obtain ⟨a1, c1, e1, hc1, hr1⟩ := own_row q3
        refine ⟨a1, c1, e1, by rw [← q1]; exact hr1, hc1, HB1.out.1.trans (q2.mono (by rw [HB1.out.2]; exact HB1.out.1.size))⟩)
      clear HX
      go_wp2_with fail
      go_ret
      obtain ⟨ta, tc, e1, h2⟩ := HE.out
      cases e1
      exact ⟨_, _, rfl, h2⟩
/-- The first place behind i whose tower stays and has more than lv links, from j on. -/
def firstR (l : List Rt) (i lv : Int) (j : Nat) : Option Nat := if h : j < l.length then if i < (j : Int) ∧ (l[j]).2 = false ∧ lv < ((l[j]).1 : Int) then some j else firstR l i lv (j + 1) else none
termination_by l.length - j
theorem firstR_at {l : List Rt} {i lv : Int} {j : Nat} {x : Rt} (h : l[j]? = some x) : firstR l i lv j = if i < (j : Int) ∧ x.2 = false ∧ lv < (x.1 : Int) then some j else firstR l i lv (j + 1) := by
  obtain ⟨hi, rfl⟩ := List.getElem?_eq_some_iff.1 h
  rw [firstR, dif_pos hi]
theorem firstR_end {l : List Rt} {i lv : Int} {j : Nat} (h : l.length ≤ j) : firstR l i lv j = none := by rw [firstR, dif_neg (by omega)]
theorem firstR_some {l : List Rt} {i lv : Int} {j k : Nat} (h : firstR l i lv j = some k) : j ≤ k ∧ k < l.length := by
  unfold firstR at h
  split at h
  · split at h
    · cases h; omega
    · have := firstR_some h; omega
  · cases h
termination_by l.length - j
def refO (l : List Rt) (i lv : Int) : Option Nat := if lv < 0 then none else firstR l i lv 0
set_option maxHeartbeats 2000000 in
theorem refLeads_any (w : World) (a : Option Addr) (cap : Nat) (l : List Rt) (hl : l.length ≤ 1000) (h : RowAt w a (rtRow l)) (i lv : Int) :
    Calls Try.prog 12 #[.slice a l.length cap, .int .i64 i, .int .i64 lv] w fun e w' => e = .returned (.int .i64 (ofO (refO l i lv))) ∧ w = w' := by
  obtain ⟨n, hn⟩ : ∃ n, n = l.length := ⟨_, rfl⟩
  have HN := Lib.hid hn
  have HR := Lib.hid h
  have hn2 : (n : Int) ≤ 1000 := by omega
  by_cases hlv : lv < 0
  · have e : refO l i lv = none := if_pos hlv
    rw [e, ← hn]
    clear hn h hl e
    have ef : ofO none = -1 := rfl
    rw [ef]
    go_enter Try.func12, Try.ntmps12
    go_wp2_with fail
    go_ret
    exact ⟨rfl, rfl⟩
  have e : refO l i lv = firstR l i lv 0 := if_neg hlv
  rw [e]
  obtain ⟨F, hF⟩ : ∃ F, F = firstR l i lv 0 := ⟨_, rfl⟩
  have HF := Lib.hid hF
  rw [← hn, ← hF]
  clear hn h hl hF e
  go_enter Try.func12, Try.ntmps12
  go_wp2_with fail
  go_loopw [7] (fun iv wr => ∃ j : Nat, iv = .int .i64 (j : Int) ∧ j ≤ n ∧ w = wr ∧ Hid (F = firstR l i lv j)) (fun iv _ => n - (intOf iv).toNat)
  case atStart => exact ⟨0, rfl, Nat.zero_le _, rfl, HF⟩
  case round =>
    obtain ⟨j, rfl, hj, rfl, hX⟩ := hrel
    by_cases hlt : j < n
    · have hlt2 : (j : Int) < (n : Int) := by omega
      obtain ⟨⟨H, gn⟩, hx⟩ : ∃ x, l[j]? = some x := ⟨_, List.getElem?_eq_getElem (by rw [← HN.out]; exact hlt)⟩
      obtain ⟨g, o, ea, hg, hr⟩ := RowAt.part (f := rtc) (n := 2) (fun _ => rfl) (by decide) HR.out hx
      have c0 := hr 0 _ rfl
      have c1 := hr 1 _ rfl
      rw [Nat.add_zero] at c0
      have hat : ∀ W, (Instr.indexAt 30 (.slice a n cap) (.int .i64 (j : Int))).run Try.prog W = .ok (.pointer (some ⟨g, o + j * 2, none⟩)) W := fun W => by rw [ea]; exact at_rt g o n cap j hlt W
      have hF2 : Hid (F = if i < (j : Int) ∧ gn = false ∧ lv < (H : Int) then some j else firstR l i lv (j + 1)) := Lib.hid (by rw [hX.out, firstR_at hx])
      clear hX HR hx HF ea hg hr
      have no : ∀ (h : ¬ (i < (j : Int) ∧ gn = false ∧ lv < (H : Int))), Hid (F = firstR l i lv (j + 1)) := fun h => Lib.hid (by rw [hF2.out, if_neg h])
      by_cases h1 : i < (j : Int)
      · have d1 : decide (i < (j : Int)) = true := decide_eq_true h1
        cases gn with
        | true =>
          have HX2 := no (fun h => by cases h.2.1)
          clear no hF2
          go_wp2_with fail
          exact ⟨⟨j + 1, by simp, by omega, by trivial, HX2⟩, by simp only [intOf]; omega⟩
        | false =>
          by_cases h2 : lv < (H : Int)
          · have d2 : decide (lv < (H : Int)) = true := decide_eq_true h2
            have HE : Hid (F = some j) := Lib.hid (by rw [hF2.out, if_pos ⟨h1, rfl, h2⟩])
            clear no hF2
            go_wp2_with fail
            go_ret
            exact ⟨by rw [HE.out]; rfl, rfl⟩
          · have d2 : decide (lv < (H : Int)) = false := decide_eq_false h2
            have HX2 := no (fun h => h2 h.2.2)
            clear no hF2
            go_wp2_with fail
            exact ⟨⟨j + 1, by simp, by omega, by trivial, HX2⟩, by simp only [intOf]; omega⟩
      · have d1 : decide (i < (j : Int)) = false := decide_eq_false h1
        have HX2 := no (fun h => h1 h.1)
        clear no hF2
        go_wp2_with fail
        exact ⟨⟨j + 1, by simp, by omega, by trivial, HX2⟩, by simp only [intOf]; omega⟩
    · have hlt2 : ¬ (j : Int) < (n : Int) := by omega
      have HE : Hid (F = none) := Lib.hid (by rw [hX.out]; exact firstR_end (by rw [← HN.out]; omega))
      clear hX HR HF
      go_wp2_with fail
      go_ret
      exact ⟨by rw [HE.out]; rfl, rfl⟩
end Go.Proofs.Ytjlifkhpohfiaaa
