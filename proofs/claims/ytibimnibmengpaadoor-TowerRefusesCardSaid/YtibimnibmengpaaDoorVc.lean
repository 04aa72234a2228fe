/- What TowerPasses does by its port. No condition. -/
import Derived.Test.YtibimnibmengpaaDoorVb
namespace Go.Proofs.YtibimnibmengpaaDoor
open Go.RowKit Go.Op
set_option maxRecDepth 100000

theorem he30 (zs : Array Value) (w : World) : (callFunc 30 zs).run Tryd.prog w = .ok (.enter 30 zs) w := by kernel_rfl
section
variable {w0 w : World} {b c r : Nat} {G : List (Nat × List Value)} {m : M} {gl ol cl gt ot ct gh oh ch n : Nat} {l : List Nod} {lows : List ByteArray} {hts : List Int} {zy zi zk zw : Nat}
set_option maxHeartbeats 4000000 in
theorem passes1_any (h : Yw w0 b c r G m gl ol cl gt ot ct gh oh ch n l lows hts zy w) (t : ByteArray) (i v : Nat) (hf : FindP lows t v) (hi : i < n) (si : SVar w zi [.int .i64 (i : Int)]) (sk : SVar w zk [.string t]) (sw : SVar w zw [.int .i64 ((max i v : Nat) : Int)]) (zi1 : zi ∉ [b, c, r]) (zk1 : zk ∉ [b, c, r]) (zw1 : zw ∉ [b, c, r]) :
    Calls Tryd.prog 30 (#[.pointer (some ⟨w.heap.size, 0, none⟩)] ++ #[.pointer (some ⟨zy, 0, none⟩), .pointer (some ⟨zi, 0, none⟩), .pointer (some ⟨zk, 0, none⟩), .pointer (some ⟨zw, 0, none⟩)]) (w.alloc (portObj b)) fun e w' => ∃ u, e = .returned u ∧ u = .iface 4 (.bool true) ∧ ButN [b, c, r] w.heap.size w w' := by
  have hD := Dgo.start h.has (Z := [b, c, r]) ⟨by simp, by simp, by simp⟩
  have hg := h.good
  have hcn := hg.cnt
  have hll := hg.ll
  have hnn := h.nn
  have hn41 : (n : Int) ≤ 41 := by have := hg.few; omega
  obtain ⟨xi, hxi⟩ : ∃ x, l[i]? = some x := ⟨_, List.getElem?_eq_getElem (by omega)⟩
  obtain ⟨z, m2, q1, q5, q6⟩ := hg.search2 hg.ok t hxi hf
  obtain ⟨j, hj⟩ : ∃ j, j = max i v := ⟨_, rfl⟩
  rw [← hj] at q1 sw
  have hjn : j < n := by have := (List.getElem?_eq_some_iff.1 q1).1; omega
  have hj1 : (j : Int) < (n : Int) := by omega
  have hj0 : (0 : Int) ≤ (j : Int) := by omega
  have hi1 : (i : Int) < (n : Int) := by omega
  have hi0 : (0 : Int) ≤ (i : Int) := by omega
  have hzz : zy ∉ [b, c, r] := by
    have := h.zne
    simp only [List.mem_cons, List.not_mem_nil, or_false]; omega
  have HY := Lib.hid h
  have HZ := Lib.hid (⟨hzz, zw1, sw⟩ : _ ∧ _ ∧ _)
  have HX := Lib.hid (⟨q1, (hg.nod q1).2.1⟩ : _ ∧ _)
  have HS : Hid ((∀ W, Below (w.alloc (portObj b)).heap.size (w.alloc (portObj b)) W → (Instr.loadAt 27 (.pointer (some ⟨zy, 3, none⟩))).run Tryd.prog W = .ok (.slice (some ⟨gh, oh, none⟩) n ch) W ∧ (Instr.loadAt 3 (.pointer (some ⟨gh, oh + i, none⟩))).run Tryd.prog W = .ok (.int .i64 xi.h) W ∧ (Instr.loadAt 9 (.pointer (some ⟨zk, 0, none⟩))).run Tryd.prog W = .ok (.string t) W ∧
      Calls Tryd.prog 17 #[.pointer (some ⟨w.heap.size, 0, none⟩), .int .i64 xi.h, .string t] W (fun e w' => ∃ t2 G2 p, e = .returned (.tuple #[.int .i64 z.h, z.nd.v p, .int .i64 0]) ∧ z.nd.d.In G2 p ∧ Aft w0 b c r w.heap.size 0 (.slice none 0 0) G W t2 G2 w' m2 (ptDo w b)) ∧ (Instr.loadAt 3 (.pointer (some ⟨zi, 0, none⟩))).run Tryd.prog W = .ok (.int .i64 (i : Int)) W) ∧
      Dgo w0 b c r w.heap.size [b, c, r] w (.slice none 0 0) G G (w.alloc (portObj b)) m (ptDo w b) ∧ i < n ∧ w.heap.size ≤ (w.alloc (portObj b)).heap.size) := by
    refine ⟨fun W hb => ?_, hD, hi, hD.but.size⟩
    have hDW := hD.later hb
    have c3 := LocM.cellD hzz h.var.lt hDW (h.var.cell (i := 3) rfl)
    have ck := (LocM.svarD zk1 hDW sk).cell (i := 0) rfl
    have ci := (LocM.svarD zi1 hDW si).cell (i := 0) rfl
    have hrw := (hDW.sys.rowAt h.ha rfl).1
    exact ⟨load_27 c3, load_3 (hrw i _ (ints_get (l := l.map Nod.h) (by rw [List.getElem?_map, hxi]; rfl))), load_9 ck, search_call hDW.sys (ptDo_quiet w b) 60 (by omega) xi.h t (z.h, z.nd, 0) m2 q5, load_3 ci⟩
  show Calls Tryd.prog 30 #[.pointer (some ⟨w.heap.size, 0, none⟩), .pointer (some ⟨zy, 0, none⟩), .pointer (some ⟨zi, 0, none⟩), .pointer (some ⟨zk, 0, none⟩), .pointer (some ⟨zw, 0, none⟩)] (w.alloc (portObj b)) _
  have mk := mkb4
  have mixed : Tryd.prog.follows .mixedOrders = true := by kernel_rfl
  clear h hD hg hcn hll hnn hxi q1 q5 q6 hf si sk sw zi1 zk1 zw1 hzz hi hj
  generalize w.alloc (portObj b) = wp at *
  go_enter Tryd.func30, Tryd.ntmps30
  go_wp2_with fail
  refine FreeV.region_puts (S := XS w0 b c r w.heap.size [b, c, r] w G 7 12 wp z.h z.nd m2 (ptDo w b)) (effs := [7, 12, 14])
    (tab := [⟨2, fun _ => [.pointer (some ⟨zy, 3, none⟩)], fun _ => .slice (some ⟨gh, oh, none⟩) n ch, .read⟩,
      ⟨3, fun _ => [.pointer (some ⟨zi, 0, none⟩)], fun _ => .int .i64 (i : Int), .read⟩,
      ⟨4, fun _ => [.slice (some ⟨gh, oh, none⟩) n ch, .int .i64 (i : Int)], fun _ => .pointer (some ⟨gh, oh + i, none⟩), .pure⟩,
      ⟨5, fun _ => [.pointer (some ⟨gh, oh + i, none⟩)], fun _ => .int .i64 xi.h, .read⟩,
      ⟨6, fun _ => [.pointer (some ⟨zk, 0, none⟩)], fun _ => .string t, .read⟩,
      ⟨7, fun _ => [.func (.func 17) #[] #[], .pointer (some ⟨w.heap.size, 0, none⟩), .int .i64 xi.h, .string t], fun β => (β 7), .get⟩,
      ⟨9, fun β => [(β 7)], fun _ => .int .i64 z.h, .read⟩,
      ⟨10, fun β => [(β 7)], fun β => (nth 1 (β 7)), .read⟩,
      ⟨11, fun β => [(β 7)], fun _ => .int .i64 0, .read⟩,
      ⟨12, fun _ => [], fun β => (β 12), .eff⟩,
      ⟨14, fun β => [(β 12), (nth 1 (β 7))], fun _ => undef, .put⟩])
    (vs := [([], fun _ => .pointer (some ⟨w.heap.size, 0, none⟩)), ([], fun _ => .pointer (some ⟨zy, 3, none⟩)), ([], fun _ => .slice (some ⟨gh, oh, none⟩) n ch), ([], fun _ => .int .i64 (i : Int)), ([], fun _ => .pointer (some ⟨gh, oh + i, none⟩)), ([], fun _ => .int .i64 xi.h), ([], fun _ => .string t), ([7], fun l => l.headD undef), ([7], fun l => l.headD undef), ([], fun _ => .int .i64 z.h), ([7], fun l => nth 1 (l.headD undef)), ([], fun _ => .int .i64 0), ([12], fun l => l.headD undef), ([], fun _ => .int .i64 z.h), ([], fun _ => undef), ([], fun _ => .int .i64 0)])
    (by kernel_rfl) ⟨by kernel_rfl, ⟨FreeV.d_load _ rfl rfl (fun β bs W hS hd => (HS.out.1 W (hS.one ((hd 0 7 rfl).2 (.inl (by kernel_rfl)))).1).1),
      FreeV.d_load _ rfl rfl (fun β bs W hS hd => (HS.out.1 W (hS.one ((hd 0 7 rfl).2 (.inl (by kernel_rfl)))).1).2.2.2.2),
      FreeV.d_at _ rfl rfl (fun _ w => at_27 gh oh n ch i HS.out.2.2.1 w),
      FreeV.d_load _ rfl rfl (fun β bs W hS hd => (HS.out.1 W (hS.one ((hd 0 7 rfl).2 (.inl (by kernel_rfl)))).1).2.1),
      FreeV.d_load _ rfl rfl (fun β bs W hS hd => (HS.out.1 W (hS.one ((hd 0 7 rfl).2 (.inl (by kernel_rfl)))).1).2.2.1),
      d_get3 rfl rfl hx17 0 rfl (fun β bs W hS hd => xs_call hS (by decide) ((hd 0 7 rfl).2 (.inr rfl)) HS.out.2.1 (fun W hb => (HS.out.1 W hb).2.2.2.1)),
      FreeV.d_extract _ rfl rfl (fun β bs W hS hd => (by obtain ⟨p, t2, G2, e, -⟩ := hS.two ((hd 0 7 rfl).1 (by kernel_rfl)); rw [e]; exact ex3_0 _ _ _ _)),
      FreeV.d_extract _ rfl rfl (fun β bs W hS hd => (by obtain ⟨p, t2, G2, e, -⟩ := hS.two ((hd 0 7 rfl).1 (by kernel_rfl)); rw [e]; exact ex3_1 _ _ _ _)),
      FreeV.d_extract _ rfl rfl (fun β bs W hS hd => (by obtain ⟨p, t2, G2, e, -⟩ := hS.two ((hd 0 7 rfl).1 (by kernel_rfl)); rw [e]; exact ex3_2 _ _ _ _)),
      FreeV.d_alloc _ rfl rfl 1 rfl (fun β bs W hS hd => xs_alloc hS (by decide) ((hd 1 12 rfl).2 (.inr rfl))),
      FreeV.d_store _ rfl rfl 2 rfl (fun β bs W hS hd => xs_store hS ((hd 0 7 rfl).1 (by kernel_rfl)) ((hd 1 12 rfl).1 (by kernel_rfl)) ((hd 2 14 rfl).2 (.inr rfl)) HS.out.2.2.2),
      trivial⟩,
      fun β => by kernel_rfl, fun β => by kernel_rfl, by kernel_rfl, fun β => by kernel_rfl, by kernel_rfl⟩ xs_start (fun β => Free.from_ 11 [.pointer (some ⟨w.heap.size, 0, none⟩), .pointer (some ⟨zy, 3, none⟩), .slice (some ⟨gh, oh, none⟩) n ch, .int .i64 (i : Int), .pointer (some ⟨gh, oh + i, none⟩), .int .i64 xi.h, .string t, (β 7)] ++ [(10, (β 7)), (19, .int .i64 z.h), (20, (nth 1 (β 7))), (21, .int .i64 0), (8, (β 12)), (7, .int .i64 z.h), (9, .int .i64 0)]) (fun β => by kernel_rfl) ?_
  intro β w4 h4
  rw [FreeX.puts_append, Free.puts_from _ _ _ (Nat.le_of_ble_eq_true rfl)]
  simp only [List.take_succ_cons, List.take_zero, List.drop_succ_cons, List.drop_zero, List.cons_append, List.nil_append, List.length_cons, List.length_nil, Nat.reduceAdd]
  unfold Free.puts
  simp only [List.foldl_cons, List.foldl_nil]
  obtain ⟨p, t2, G2, e6, -, ⟨-, hD4⟩, h5⟩ := h4.two rfl
  obtain ⟨zn, e11, -, -, -, h6⟩ := h5 rfl
  have sn := h6 rfl
  rw [e6, e11]
  have c3 := LocM.cellD HZ.out.1 HY.out.var.lt hD4 (HY.out.var.cell (i := 3) rfl)
  have c1 := LocM.cellD HZ.out.1 HY.out.var.lt hD4 (HY.out.var.cell (i := 1) rfl)
  have cw := (LocM.svarD HZ.out.2.1 hD4 HZ.out.2.2).cell (i := 0) rfl
  have chj : w4.cell? ⟨gh, oh + j, none⟩ = some (.int .i64 z.h) := (hD4.sys.rowAt (HY.out.ha.more hD4.gro.1) rfl).1 j _ (ints_get (l := l.map Nod.h) (by rw [List.getElem?_map, HX.out.1]; rfl))
  have clj : w4.cell? ⟨gl, ol + j, none⟩ = some (.string z.nd.low) := (hD4.sys.rowAt (HY.out.la.more hD4.gro.1) rfl).1 j _ (strs_get HX.out.2)
  have cn := sn.cell (i := 0) rfl
  have HE : Hid (∀ nq, ButN [b, c, r] w.heap.size w (w4.drewN nq)) := fun nq => (hD4.later (below_drewN w4 nq)).but
  clear h4 h5 h6 e6 e11 sn hD4 HS
  go_wp2_with fail
  go_quiet (fail)
  go_wp2_with fail
  go_ret
  exact ⟨_, rfl, rfl, HE.out _⟩
end
end Go.Proofs.YtibimnibmengpaaDoor
