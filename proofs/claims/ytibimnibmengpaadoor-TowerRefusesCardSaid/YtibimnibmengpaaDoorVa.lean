/- What TowerSame does by its ports: the low of the node that a search tells. No condition. -/
import Derived.Test.YtibimnibmengpaaDoorTy
namespace Go.Proofs.YtibimnibmengpaaDoor
open Go.RowKit Go.Op
set_option maxRecDepth 100000

theorem he36 (zs : Array Value) (w : World) : (callFunc 36 zs).run Tryd.prog w = .ok (.enter 36 zs) w := by kernel_rfl
theorem he35 (zs : Array Value) (w : World) : (callFunc 35 zs).run Tryd.prog w = .ok (.enter 35 zs) w := by kernel_rfl
section
variable {w0 w : World} {b c r : Nat} {G : List (Nat × List Value)} {m : M} {gl ol cl gt ot ct gh oh ch n : Nat} {l : List Nod} {lows : List ByteArray} {hts : List Int} {zy zk zs : Nat}
theorem Yw.reloc {W : World} {z : Nat} (h : Yw w0 b c r G m gl ol cl gt ot ct gh oh ch n l lows hts zy w) (hb : Below w.heap.size w W) (hz : LocM w0 b c r G W z) (hv : SVar W z [.pointer (some ⟨b, 0, none⟩), .slice (some ⟨gl, ol, none⟩) n cl, .slice (some ⟨gt, ot, none⟩) n ct, .slice (some ⟨gh, oh, none⟩) n ch]) : Yw w0 b c r G m gl ol cl gt ot ct gh oh ch n l lows hts z W :=
  ⟨h.has.later hb, h.good, h.nn, h.la, h.ta, h.ha, hv, hz.ne⟩
/-- Another memory's doings are none of its own. -/
theorem Yw.over {ws w' : World} {Z : List Nat} (h : Yw w0 b c r G m gl ol cl gt ot ct gh oh ch n l lows hts zy w) (hb : Below ws.heap.size ws w0) (hn : ButN Z w.heap.size w w') (hZ : ∀ z, z ∈ Z → ws.heap.size ≤ z ∧ z < w0.heap.size) (hzy : zy ∉ Z) : Yw ws b c r G m gl ol cl gt ot ct gh oh ch n l lows hts zy w' := by
  obtain ⟨m0, h1, h2, h3, h4, h5⟩ := h.has
  have o := h1.at_.own
  have k1 := h1.hb
  have k2 := h1.hc
  have k3 := h1.hr
  have k4 := hb.size
  have nz : ∀ g, w0.heap.size ≤ g → g ∉ Z := fun g hg hm => by have := (hZ g hm).2; omega
  have h6 := h1.below
  have h7 := h6.size
  refine ⟨⟨m0, ⟨AtF.same h1.at_ hn.size (hn.block b o.lb (nz b k1)) (hn.block c o.lc (nz c k2)) (hn.block r o.lr (nz r k3)), h1.ok, ?_, by omega, by omega, by omega⟩, h2, h3, h4, fun g l hg => ?_⟩, h.good, h.nn, h.la, h.ta, h.ha, h.var.same hn.size (hn.block zy h.var.lt hzy), h.zne⟩
  · exact ⟨hn.os.trans (h6.os.trans hb.os), hn.tape.trans (h6.tape.trans hb.tape), hn.output.trans (h6.output.trans hb.output), by have := hn.size; omega, fun k hk => ((hn.block k (by omega) fun hm => by have := (hZ k hm).1; omega).trans (h6.block k (by omega))).trans (hb.block k hk)⟩
  · obtain ⟨r1, r2, r3⟩ := h5 g l hg
    exact ⟨r1.same hn.size (hn.block g r1.lt (nz g r2)), by omega, r3⟩
set_option maxHeartbeats 4000000 in
theorem same1_any (h : Yw w0 b c r G m gl ol cl gt ot ct gh oh ch n l lows hts zy w) (t : ByteArray) (i : Nat) (hf : FindP lows t i) {lo : ByteArray} (hlo : lows[i]? = some lo) (sk : SVar w zk [.string t]) {u0 : Value} (ss : SVar w zs [u0]) (zk1 : zk ∉ [b, c, r]) (zs1 : zs ∉ [b, c, r]) :
    Calls Tryd.prog 36 (#[.pointer (some ⟨w.heap.size, 0, none⟩)] ++ #[.pointer (some ⟨zy, 0, none⟩), .pointer (some ⟨zk, 0, none⟩), .pointer (some ⟨zs, 0, none⟩)]) (w.alloc (portObj b)) fun e w' => ∃ u, e = .returned u ∧ u = .iface 4 (.bool true) ∧ ButN [b, c, r, zs] w.heap.size w w' ∧ SVar w' zs [.string lo] := by
  have hD := Dgo.start h.has (Z := [b, c, r]) ⟨by simp, by simp, by simp⟩
  have hg := h.good
  have hcn := hg.cnt
  have hll := hg.ll
  have hnn := h.nn
  have hn0 : 0 < n := by rw [hnn]; exact (List.getElem?_eq_some_iff.1 hg.zero).1
  obtain ⟨x0, hx0⟩ : ∃ x, l[0]? = some x := ⟨_, List.getElem?_eq_getElem (by omega)⟩
  have low0 : (⟨#[]⟩ : ByteArray) = x0.nd.low := Option.some.inj (hg.zero.symm.trans (hg.nod hx0).2.1)
  obtain ⟨j, z, m2, q1, -, q3, q4, q5, q6⟩ := hg.search hg.ok t hx0 (by rw [← low0]; exact lt_empty _)
  obtain rfl : j = i := find_is hg.up hf (hg.nod q1).2.1 q3 q4
  have hzlo : z.nd.low = lo := Option.some.inj ((hg.nod q1).2.1.symm.trans hlo)
  have hzz : zy ∉ [b, c, r] := by
    have := h.zne
    simp only [List.mem_cons, List.not_mem_nil, or_false]; omega
  have HY := Lib.hid h
  have HZ := Lib.hid (⟨hzz, zk1, zs1, sk, ss⟩ : _ ∧ _ ∧ _ ∧ _ ∧ _)
  have HS : Hid ((∀ W, Below (w.alloc (portObj b)).heap.size (w.alloc (portObj b)) W → (Instr.loadAt 27 (.pointer (some ⟨zy, 3, none⟩))).run Tryd.prog W = .ok (.slice (some ⟨gh, oh, none⟩) n ch) W ∧ (Instr.loadAt 3 (.pointer (some ⟨gh, oh, none⟩))).run Tryd.prog W = .ok (.int .i64 x0.h) W ∧ (Instr.loadAt 9 (.pointer (some ⟨zk, 0, none⟩))).run Tryd.prog W = .ok (.string t) W ∧
      Calls Tryd.prog 17 #[.pointer (some ⟨w.heap.size, 0, none⟩), .int .i64 x0.h, .string t] W fun e w' => ∃ t2 G2 p, e = .returned (.tuple #[.int .i64 z.h, z.nd.v p, .int .i64 0]) ∧ z.nd.d.In G2 p ∧ Aft w0 b c r w.heap.size 0 (.slice none 0 0) G W t2 G2 w' m2 (ptDo w b)) ∧
      Dgo w0 b c r w.heap.size [b, c, r] w (.slice none 0 0) G G (w.alloc (portObj b)) m (ptDo w b) ∧ 0 < n ∧ w.heap.size ≤ (w.alloc (portObj b)).heap.size) := by
    refine ⟨fun W hb => ?_, hD, hn0, hD.but.size⟩
    have hDW := hD.later hb
    have c3 := LocM.cellD hzz h.var.lt hDW (h.var.cell (i := 3) rfl)
    have ck := (LocM.svarD zk1 hDW sk).cell (i := 0) rfl
    have hrw := (hDW.sys.rowAt h.ha rfl).1
    exact ⟨load_27 c3, load_3 (hrw 0 _ (ints_get (l := l.map Nod.h) (by rw [List.getElem?_map, hx0]; rfl))), load_9 ck, search_call hDW.sys (ptDo_quiet w b) 60 (by omega) x0.h t (z.h, z.nd, 0) m2 q5⟩
  show Calls Tryd.prog 36 #[.pointer (some ⟨w.heap.size, 0, none⟩), .pointer (some ⟨zy, 0, none⟩), .pointer (some ⟨zk, 0, none⟩), .pointer (some ⟨zs, 0, none⟩)] (w.alloc (portObj b)) _
  have mk := mkb4
  have mixed : Tryd.prog.follows .mixedOrders = true := by kernel_rfl
  clear h hD hg hcn hll hx0 low0 q1 q3 q4 q5 q6 hf sk ss zk1 zs1 hzz hn0 hnn hlo
  generalize w.alloc (portObj b) = wp at *
  go_enter Tryd.func36, Tryd.ntmps36
  go_wp2_with fail
  refine FreeV.region_puts (S := XS w0 b c r w.heap.size [b, c, r] w G 6 11 wp z.h z.nd m2 (ptDo w b)) (effs := [6, 11, 13])
    (tab := [⟨2, fun _ => [.pointer (some ⟨zy, 3, none⟩)], fun _ => .slice (some ⟨gh, oh, none⟩) n ch, .read⟩,
      ⟨3, fun _ => [.slice (some ⟨gh, oh, none⟩) n ch, .int .i64 0], fun _ => .pointer (some ⟨gh, oh, none⟩), .pure⟩,
      ⟨4, fun _ => [.pointer (some ⟨gh, oh, none⟩)], fun _ => .int .i64 x0.h, .read⟩,
      ⟨5, fun _ => [.pointer (some ⟨zk, 0, none⟩)], fun _ => .string t, .read⟩,
      ⟨6, fun _ => [.func (.func 17) #[] #[], .pointer (some ⟨w.heap.size, 0, none⟩), .int .i64 x0.h, .string t], fun β => (β 6), .get⟩,
      ⟨8, fun β => [(β 6)], fun _ => .int .i64 z.h, .read⟩,
      ⟨9, fun β => [(β 6)], fun β => (nth 1 (β 6)), .read⟩,
      ⟨10, fun β => [(β 6)], fun _ => .int .i64 0, .read⟩,
      ⟨11, fun _ => [], fun β => (β 11), .eff⟩,
      ⟨13, fun β => [(β 11), (nth 1 (β 6))], fun _ => undef, .put⟩])
    (vs := [([], fun _ => .pointer (some ⟨w.heap.size, 0, none⟩)), ([], fun _ => .pointer (some ⟨zy, 3, none⟩)), ([], fun _ => .slice (some ⟨gh, oh, none⟩) n ch), ([], fun _ => .pointer (some ⟨gh, oh, none⟩)), ([], fun _ => .int .i64 x0.h), ([], fun _ => .string t), ([6], fun l => l.headD undef), ([6], fun l => l.headD undef), ([], fun _ => .int .i64 z.h), ([6], fun l => nth 1 (l.headD undef)), ([], fun _ => .int .i64 0), ([11], fun l => l.headD undef), ([], fun _ => .int .i64 z.h), ([], fun _ => undef), ([], fun _ => .int .i64 0)])
    (by kernel_rfl) ⟨by kernel_rfl, ⟨FreeV.d_load _ rfl rfl (fun β bs W hS hd => (HS.out.1 W (hS.one ((hd 0 6 rfl).2 (.inl (by kernel_rfl)))).1).1),
      FreeV.d_at _ rfl rfl (fun _ w => at27_0 gh oh n ch HS.out.2.2.1 w),
      FreeV.d_load _ rfl rfl (fun β bs W hS hd => (HS.out.1 W (hS.one ((hd 0 6 rfl).2 (.inl (by kernel_rfl)))).1).2.1),
      FreeV.d_load _ rfl rfl (fun β bs W hS hd => (HS.out.1 W (hS.one ((hd 0 6 rfl).2 (.inl (by kernel_rfl)))).1).2.2.1),
      d_get3 rfl rfl hx17 0 rfl (fun β bs W hS hd => xs_call hS (by decide) ((hd 0 6 rfl).2 (.inr rfl)) HS.out.2.1 (fun W hb => (HS.out.1 W hb).2.2.2)),
      FreeV.d_extract _ rfl rfl (fun β bs W hS hd => (by obtain ⟨p, t2, G2, e, -⟩ := hS.two ((hd 0 6 rfl).1 (by kernel_rfl)); rw [e]; exact ex3_0 _ _ _ _)),
      FreeV.d_extract _ rfl rfl (fun β bs W hS hd => (by obtain ⟨p, t2, G2, e, -⟩ := hS.two ((hd 0 6 rfl).1 (by kernel_rfl)); rw [e]; exact ex3_1 _ _ _ _)),
      FreeV.d_extract _ rfl rfl (fun β bs W hS hd => (by obtain ⟨p, t2, G2, e, -⟩ := hS.two ((hd 0 6 rfl).1 (by kernel_rfl)); rw [e]; exact ex3_2 _ _ _ _)),
      FreeV.d_alloc _ rfl rfl 1 rfl (fun β bs W hS hd => xs_alloc hS (by decide) ((hd 1 11 rfl).2 (.inr rfl))),
      FreeV.d_store _ rfl rfl 2 rfl (fun β bs W hS hd => xs_store hS ((hd 0 6 rfl).1 (by kernel_rfl)) ((hd 1 11 rfl).1 (by kernel_rfl)) ((hd 2 13 rfl).2 (.inr rfl)) HS.out.2.2.2),
      trivial⟩,
      fun β => by kernel_rfl, fun β => by kernel_rfl, by kernel_rfl, fun β => by kernel_rfl, by kernel_rfl⟩ xs_start (fun β => Free.from_ 10 [.pointer (some ⟨w.heap.size, 0, none⟩), .pointer (some ⟨zy, 3, none⟩), .slice (some ⟨gh, oh, none⟩) n ch, .pointer (some ⟨gh, oh, none⟩), .int .i64 x0.h, .string t, (β 6)] ++ [(9, (β 6)), (17, .int .i64 z.h), (18, (nth 1 (β 6))), (19, .int .i64 0), (7, (β 11)), (6, .int .i64 z.h), (8, .int .i64 0)]) (fun β => by kernel_rfl) ?_
  intro β w4 h4
  rw [FreeX.puts_append, Free.puts_from _ _ _ (Nat.le_of_ble_eq_true rfl)]
  simp only [List.take_succ_cons, List.take_zero, List.drop_succ_cons, List.drop_zero, List.cons_append, List.nil_append, List.length_cons, List.length_nil, Nat.reduceAdd]
  unfold Free.puts
  simp only [List.foldl_cons, List.foldl_nil]
  obtain ⟨p, t2, G2, e6, -, ⟨-, hD4⟩, h5⟩ := h4.two rfl
  obtain ⟨zn, e11, -, -, -, h6⟩ := h5 rfl
  have sn := h6 rfl
  rw [e6, e11]
  have s4 := LocM.svarD HZ.out.2.2.1 hD4 HZ.out.2.2.2.2
  have cs := s4.cell (i := 0) rfl
  have fs := s4.fz 0
  have cn := sn.cell (i := 0) rfl
  rw [hzlo] at cn
  have HE : Hid (ButN [b, c, r, zs] w.heap.size w (w4.setCell ⟨zs, 0, none⟩ (.string lo)) ∧ SVar (w4.setCell ⟨zs, 0, none⟩ (.string lo)) zs [.string lo]) := by
    have bt : But zs w4 (w4.setCell ⟨zs, 0, none⟩ (.string lo)) := (But.refl _ _).set _ _
    have hb4 := hD4.but
    refine ⟨⟨bt.os.trans hb4.os, bt.tape.trans hb4.tape, bt.output.trans hb4.output, Nat.le_trans hb4.size bt.size, fun k hk hm => ?_⟩, s4.set (i := 0) (by simp) _⟩
    simp only [List.mem_cons, List.not_mem_nil, or_false, not_or] at hm
    rw [bt.block k (Nat.lt_of_lt_of_le hk hb4.size) hm.2.2.2]
    exact hb4.block k hk (by simp only [List.mem_cons, List.not_mem_nil, or_false, not_or]; exact ⟨hm.1, hm.2.1, hm.2.2.1⟩)
  clear h4 h5 h6 e6 e11 sn s4 hD4 HS
  go_wp2_with fail
  go_ret
  exact ⟨_, rfl, rfl, HE.out⟩
set_option maxHeartbeats 4000000 in
theorem same35_any (h : Yw w0 b c r G m gl ol cl gt ot ct gh oh ch n l lows hts zy w) (t : ByteArray) (i : Nat) (hf : FindP lows t i) {lo : ByteArray} (hlo : lows[i]? = some lo) (sk : SVar w zk [.string t]) (zk1 : zk ∉ [b, c, r]) :
    Calls Tryd.prog 35 #[.agg #[.pointer (some ⟨b, 0, none⟩), .slice (some ⟨gl, ol, none⟩) n cl, .slice (some ⟨gt, ot, none⟩) n ct, .slice (some ⟨gh, oh, none⟩) n ch], .pointer (some ⟨zk, 0, none⟩)] w fun e w' => e = .returned (.tuple #[.string lo, .bool true]) ∧ ButN [b, c, r] w.heap.size w w' := by
  obtain ⟨wx, hwx⟩ : ∃ W, W = w.alloc (.cells #[.pointer (some ⟨b, 0, none⟩), .slice (some ⟨gl, ol, none⟩) n cl, .slice (some ⟨gt, ot, none⟩) n ct, .slice (some ⟨gh, oh, none⟩) n ch] 29) := ⟨_, rfl⟩
  obtain ⟨wb, hwb⟩ : ∃ W, W = wx.alloc (.cells #[.string ⟨#[]⟩] 9) := ⟨_, rfl⟩
  have hbx : Below w.heap.size w wx := by rw [hwx]; exact (Below.refl _ _).alloc (Nat.le_refl _) _
  have hbb : Below wx.heap.size wx wb := by rw [hwb]; exact (Below.refl _ _).alloc (Nat.le_refl _) _
  have hsx : wx.heap.size = w.heap.size + 1 := by rw [hwx]; simp
  have hbw : Below w.heap.size w wb := hbx.trans (hbb.mono (by omega))
  have sv : SVar wx w.heap.size [.pointer (some ⟨b, 0, none⟩), .slice (some ⟨gl, ol, none⟩) n cl, .slice (some ⟨gt, ot, none⟩) n ct, .slice (some ⟨gh, oh, none⟩) n ch] := by rw [hwx]; exact snew _ _ _
  have lx : LocM w0 b c r G wx w.heap.size := by rw [hwx]; exact h.has.fresh _
  have hyx := h.reloc hbx lx sv
  have lb : LocM w0 b c r G wb wx.heap.size := by rw [hwb]; exact hyx.has.fresh _
  have ss : SVar wb wx.heap.size [.string ⟨#[]⟩] := by rw [hwb]; exact snew _ _ _
  have hdo := do_any wb b 36 #[.pointer (some ⟨w.heap.size, 0, none⟩), .pointer (some ⟨zk, 0, none⟩), .pointer (some ⟨wx.heap.size, 0, none⟩)] _ he36
    (same1_any (hyx.later hbb) t i hf hlo (sk.later hbw) ss zk1 (by have := lb.ne; simp only [List.mem_cons, List.not_mem_nil, or_false]; omega))
  have c0 := ((hyx.later hbb).var).cell (i := 0) rfl
  have HW := Lib.hid (⟨hwx.symm, hwb.symm⟩ : _ ∧ _)
  have HB := Lib.hid (⟨hbw, hsx⟩ : _ ∧ _)
  have HWs : Hid (wx.heap.size = w.heap.size + 1) := hsx
  have ay := as4_yes
  rw [hwb] at c0
  clear h hf hlo sk zk1 hwx hwb hbx hbb hsx hbw sv lx hyx lb ss
  go_enter Tryd.func35, Tryd.ntmps35
  go_wp2_with (first | rw [HW.out.1] | fail)
  rw [HW.out.2]
  refine hdo.mono ?_
  rintro e w3 ⟨u, rfl, rfl, hbn, hs3⟩
  have cs := hs3.cell (i := 0) rfl
  have HE : Hid (ButN [b, c, r] w.heap.size w w3) := by
    obtain ⟨h1, h2⟩ := HB.out
    exact ⟨hbn.os.trans h1.os, hbn.tape.trans h1.tape, hbn.output.trans h1.output, Nat.le_trans h1.size hbn.size, fun k hk hm => by
      rw [hbn.block k (by have := h1.size; omega) (by
        simp only [List.mem_cons, List.not_mem_nil, or_false, not_or] at hm ⊢
        exact ⟨hm.1, hm.2.1, hm.2.2, by omega⟩)]
      exact h1.block k hk⟩
  clear hdo hbn hs3 c0
  go_wp2_with fail
  go_ret2
  exact ⟨rfl, HE.out⟩
end
end Go.Proofs.YtibimnibmengpaaDoor
