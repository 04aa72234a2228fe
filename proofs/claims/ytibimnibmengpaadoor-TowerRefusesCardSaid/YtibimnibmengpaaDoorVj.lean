/- What TowerRefuses does by its port. No condition. -/
import Derived.Test.YtibimnibmengpaaDoorVi
namespace Go.Proofs.YtibimnibmengpaaDoor
open Go.RowKit Go.Op
set_option maxRecDepth 100000

theorem he31 (zs : Array Value) (w : World) : (callFunc 31 zs).run Tryd.prog w = .ok (.enter 31 zs) w := by kernel_rfl
theorem hx34 (zs : Array Value) (w : World) : (callFunc 34 zs).run Tryd.prog w = .ok (.enter 34 zs) w := by kernel_rfl
theorem hx33 (zs : Array Value) (w : World) : (callFunc 33 zs).run Tryd.prog w = .ok (.enter 33 zs) w := by kernel_rfl
/-- Within a region that asks once. -/
structure XK (w2 : World) (v : Value) (P : World → Prop) (bs : List Bool) (β : Nat → Value) (W : World) : Prop where
  one : bs[0]? = some false → Below w2.heap.size w2 W
  two : bs[0]? = some true → β 8 = v ∧ P W
theorem xk_start {w2 : World} {v : Value} {P : World → Prop} {β : Nat → Value} : XK w2 v P [false] β w2.drew := ⟨fun _ => (Below.refl _ _).drew, fun e => (by cases e)⟩
theorem xk_call {w2 W W2 : World} {v : Value} {P : World → Prop} {bs : List Bool} {β : Nat → Value} {e : Ending} (_ : XK w2 v P bs β W) (b0 : bs[0]? = some false) (h : e = .returned v ∧ P W2) : ∃ u, e = .returned u ∧ XK w2 v P (bs.set 0 true) (FreeV.upd β 8 u) W2 :=
  ⟨v, h.1, fun e => (by rw [set_at b0] at e; cases e), fun _ => ⟨by simp [FreeV.upd], h.2⟩⟩
section
variable {w0 w : World} {b c r : Nat} {G : List (Nat × List Value)} {m : M} {gl ol cl gt ot ct gh oh ch : Nat} {l : List Nod} {lows : List ByteArray} {hts : List Int} {zy zk : Nat}
set_option maxHeartbeats 8000000 in
theorem refuses1_any (h : Yw w0 b c r G m gl ol cl gt ot ct gh oh ch 2 l lows hts zy w) (k : Int) (hk : k ∉ l.map Nod.h) (h1 : hts[0]? = some 1) (sk : SVar w zk [.int .i64 k]) (zk1 : zk ∉ [b, c, r]) :
    Calls Tryd.prog 31 (#[.pointer (some ⟨w.heap.size, 0, none⟩)] ++ #[.pointer (some ⟨zk, 0, none⟩), .pointer (some ⟨zy, 0, none⟩)]) (w.alloc (portObj b)) fun e w' => ∃ u, e = .returned u ∧ u = .iface 4 (.bool true) ∧ ButN [b, c, r] w.heap.size w w' := by
  have hD := Dgo.start h.has (Z := [b, c, r]) ⟨by simp, by simp, by simp⟩
  have hg := h.good
  have hcn := hg.cnt
  have hll := hg.ll
  have hnn := h.nn
  obtain ⟨x0, hx0⟩ : ∃ x, l[0]? = some x := ⟨_, List.getElem?_eq_getElem (by omega)⟩
  have hN1 : x0.links.length = 1 := by
    have := (hg.nod hx0).2.2.1
    rw [h1] at this
    have := Option.some.inj this
    omega
  obtain ⟨er, href⟩ := hg.no hk
  obtain ⟨m1, s1, a1⟩ := href.search (AskN.refl m) ⟨#[98]⟩
  obtain ⟨m2, s2, a2⟩ := href.walk a1
  obtain ⟨m3, s3, a3⟩ := href.look (a1.trans a2)
  have a13 := (a1.trans a2).trans a3
  have hn3 := ((hg.nod hx0).1).asked a13
  have s4 := load_nod hn3
  have a14 := a13.trans (AskN.ask m3)
  obtain ⟨cc, m5, m6, hnx, s5, hc5, s6⟩ := hg.spoil hx0 hN1 a14 ⟨#[98]⟩
  have q1 := a1.cnt
  have q2 := (a1.trans a2).cnt
  have q3 := a13.cnt
  have q4 := a14.cnt
  have hzz : zy ∉ [b, c, r] := by
    have := h.zne
    simp only [List.mem_cons, List.not_mem_nil, or_false]; omega
  have ck := (LocM.svarD zk1 hD sk).cell (i := 0) rfl
  have hs1 := search_call hD.sys (ptDo_quiet w b) 60 (by omega) k ⟨#[98]⟩ (0, nd0, er) m1 s1
  have HY := Lib.hid h
  have HD := Lib.hid hD
  have HZ := Lib.hid (⟨hzz, zk1, sk, hx0, hnx⟩ : _ ∧ _ ∧ _ ∧ _ ∧ _)
  have HM := Lib.hid (⟨s2, s3, s4, s5, s6, hcn, q1, q2, q3, q4, hc5⟩ : _ ∧ _ ∧ _ ∧ _ ∧ _ ∧ _ ∧ _ ∧ _ ∧ _ ∧ _ ∧ _)
  have HR := Lib.hid href.1
  show Calls Tryd.prog 31 #[.pointer (some ⟨w.heap.size, 0, none⟩), .pointer (some ⟨zk, 0, none⟩), .pointer (some ⟨zy, 0, none⟩)] (w.alloc (portObj b)) _
  have mk := mkb4
  have mixed : Tryd.prog.follows .mixedOrders = true := by kernel_rfl
  clear h hD hg hcn hll hnn hx0 hN1 href s1 a1 s2 a2 s3 a3 a13 hn3 s4 a14 hnx s5 hc5 s6 q1 q2 q3 q4 hzz sk zk1 h1 hk
  generalize w.alloc (portObj b) = wp at *
  go_enter Tryd.func31, Tryd.ntmps31
  go_wp2_with fail
  refine hs1.mono ?_
  rintro e wA ⟨t1, G1, p1, rfl, -, ha⟩
  obtain ⟨wB, hwB⟩ : ∃ W, W = wA.alloc (.cells (nd0.row p1).toArray 38) := ⟨_, rfl⟩
  have hbB : Below wA.heap.size wA wB := by rw [hwB]; exact (Below.refl _ _).alloc (Nat.le_refl _) _
  have hDB := (HD.out.aft ha).later hbB
  have ckB := (LocM.svarD HZ.out.2.1 hDB HZ.out.2.2.1).cell (i := 0) rfl
  have hs2 := walk_no hDB.sys (ptDo_quiet w b) (by obtain ⟨-, -, -, -, -, h6, h7, -⟩ := HM.out; omega) k er m2 HM.out.1
  have HWB := Lib.hid hwB.symm
  have HDB := Lib.hid hDB
  unfold Nd.v
  simp only [Nd.row, nd0] at HWB
  simp only [nd0]
  clear hs1 ha hwB hbB hDB ck
  go_wp2_with (first | rw [HWB.out] | fail)
  refine hs2.mono ?_
  rintro e wC ⟨t2, G2, a2, cap2, rfl, ha⟩
  have hDC := HDB.out.aft ha
  have ckC := (LocM.svarD HZ.out.2.1 hDC HZ.out.2.2.1).cell (i := 0) rfl
  have hs3 := look_no hDC.sys (ptDo_quiet w b) (by obtain ⟨-, -, -, -, -, h6, -, h8, -⟩ := HM.out; omega) k er m3 HM.out.2.1
  have HDC := Lib.hid hDC
  clear hs2 ha hDC ckB
  go_wp2_with fail
  refine hs3.mono ?_
  rintro e wE ⟨t3, G3, q3, rfl, ha⟩
  obtain ⟨wF, hwF⟩ : ∃ W, W = wE.alloc (.cells (vw0.row q3).toArray 54) := ⟨_, rfl⟩
  have hbF : Below wE.heap.size wE wF := by rw [hwF]; exact (Below.refl _ _).alloc (Nat.le_refl _) _
  have hDF := (HDC.out.aft ha).later hbF
  have c3 := (LocM.svarD HZ.out.1 hDF HY.out.var).cell (i := 3) rfl
  have ch0 : wF.cell? ⟨gh, oh, none⟩ = some (.int .i64 x0.h) := (hDF.sys.rowAt (HY.out.ha.more hDF.gro.1) rfl).1 0 _ (ints_get (l := l.map Nod.h) (by rw [List.getElem?_map, HZ.out.2.2.2.1]; rfl))
  have hs4 := load_call hDF.sys (ptDo_quiet w b) (by obtain ⟨-, -, -, -, -, h6, -, -, h9, -⟩ := HM.out; omega) x0.h (x0.nd, 0) m3.ask HM.out.2.2.1
  have HWF := Lib.hid hwF.symm
  have HDF := Lib.hid hDF
  unfold Vw.v
  simp only [Vw.row, vw0, nd0, rv0] at HWF
  simp only [vw0, nd0, rv0]
  clear hs3 ha hwF hbF hDF ckC
  go_wp2_with (first | rw [HWF.out] | fail)
  refine hs4.mono ?_
  rintro e wG ⟨t4, G4, q4, rfl, hin, ha⟩
  obtain ⟨wH, hwH⟩ : ∃ W, W = wG.alloc (.cells (x0.nd.row q4).toArray 38) := ⟨_, rfl⟩
  have hbH : Below wG.heap.size wG wH := by rw [hwH]; exact (Below.refl _ _).alloc (Nat.le_refl _) _
  have hDG := HDF.out.aft ha
  have hDH := hDG.later hbH
  have sn : SVar wH wG.heap.size (x0.nd.row q4) := by rw [hwH]; exact snew _ _ _
  have hin' : q4.s0.In G4 (ints [cc]) := by
    have : q4.s0.In G4 (ints x0.nd.nx) := hin
    rwa [HZ.out.2.2.2.2] at this
  obtain ⟨⟨na, nn, nc⟩, q42, q43, q44⟩ := q4
  have hnn : nn = 1 := by have := hin'.n; simpa [ints] using this
  subst hnn
  obtain ⟨gn, on, en, ccell, -⟩ := hDH.sys.slcell hin' (ints_get (l := [cc]) (i := 0) rfl)
  simp only at en
  subst en
  have cn1 := sn.cell (i := 1) rfl
  have cn2 := sn.cell (i := 2) rfl
  have HS : Hid (∀ W, Below wH.heap.size wH W → (Instr.loadAt 27 (.pointer (some ⟨wG.heap.size, 2, none⟩))).run Tryd.prog W = .ok (.slice (some ⟨gn, on, none⟩) 1 nc) W ∧ (Instr.loadAt 3 (.pointer (some ⟨gn, on, none⟩))).run Tryd.prog W = .ok (.int .i64 cc) W ∧ (Instr.loadAt 3 (.pointer (some ⟨wG.heap.size, 1, none⟩))).run Tryd.prog W = .ok (.int .i64 x0.nd.head) W ∧
      Calls Tryd.prog 33 #[.pointer (some ⟨w.heap.size, 0, none⟩), .int .i64 cc, .int .i64 (tword x0.nd.head 1)] W fun e w' => e = .returned (.int .i64 0) ∧ ∃ t5 G5, Dgo w0 b c r w.heap.size [b, c, r] w t5 G G5 w' m5 (ptDo w b)) := fun W hb => by
    have hDW := hDH.later hb
    have s2 := sn.later hb
    obtain ⟨gn', on', en', ccW, -⟩ := hDW.sys.slcell hin' (ints_get (l := [cc]) (i := 0) rfl)
    cases en'
    refine ⟨load_27 (s2.cell (i := 2) rfl), load_3 ccW, load_3 (s2.cell (i := 1) rfl), ?_⟩
    have hst := store_call hDW.sys (ptDo_quiet w b) (by obtain ⟨-, -, -, -, -, h6, -, -, -, h10, -⟩ := HM.out; omega) cc (tword x0.nd.head 1)
    rw [HM.out.2.2.2.1] at hst
    refine hst.mono ?_
    rintro e w' ⟨t5, G5, rfl, ha⟩
    exact ⟨rfl, t5, G5, hDW.aft ha⟩
  have HWH := Lib.hid hwH.symm
  unfold Nd.v
  simp only [Nd.row] at HWH
  simp only
  clear hs4 ha hin hwH hbH hDG hDH sn hin' ccell c3 ch0
  go_wp2_with (first | rw [HWH.out] | fail)
  refine FreeV.region_puts (S := XK wH (.int .i64 0) (fun W => ∃ t5 G5, Dgo w0 b c r w.heap.size [b, c, r] w t5 G G5 W m5 (ptDo w b))) (effs := [8])
    (tab := [⟨2, fun _ => [.pointer (some ⟨wG.heap.size, 2, none⟩)], fun _ => .slice (some ⟨gn, on, none⟩) 1 nc, .read⟩,
      ⟨3, fun _ => [.slice (some ⟨gn, on, none⟩) 1 nc, .int .i64 0], fun _ => .pointer (some ⟨gn, on, none⟩), .pure⟩,
      ⟨4, fun _ => [.pointer (some ⟨gn, on, none⟩)], fun _ => .int .i64 cc, .read⟩,
      ⟨6, fun _ => [.pointer (some ⟨wG.heap.size, 1, none⟩)], fun _ => .int .i64 x0.nd.head, .read⟩,
      ⟨7, fun _ => [.func (.func 34) #[] #[], .int .i64 x0.nd.head, .int .i64 1], fun _ => .int .i64 (tword x0.nd.head 1), .ask⟩,
      ⟨8, fun _ => [.func (.func 33) #[] #[], .pointer (some ⟨w.heap.size, 0, none⟩), .int .i64 cc, .int .i64 (tword x0.nd.head 1)], fun β => (β 8), .get⟩])
    (vs := [([], fun _ => .pointer (some ⟨w.heap.size, 0, none⟩)), ([], fun _ => .pointer (some ⟨wG.heap.size, 2, none⟩)), ([], fun _ => .slice (some ⟨gn, on, none⟩) 1 nc), ([], fun _ => .pointer (some ⟨gn, on, none⟩)), ([], fun _ => .int .i64 cc), ([], fun _ => .pointer (some ⟨wG.heap.size, 1, none⟩)), ([], fun _ => .int .i64 x0.nd.head), ([], fun _ => .int .i64 (tword x0.nd.head 1)), ([8], fun l => l.headD undef), ([8], fun l => l.headD undef)])
    (by kernel_rfl) ⟨by kernel_rfl, ⟨FreeV.d_load _ rfl rfl (fun β bs W hS hd => (HS.out W (hS.one ((hd 0 8 rfl).2 (.inl (by kernel_rfl))))).1),
      FreeV.d_at _ rfl rfl (fun _ w => at27_0 gn on 1 nc (by decide) w),
      FreeV.d_load _ rfl rfl (fun β bs W hS hd => (HS.out W (hS.one ((hd 0 8 rfl).2 (.inl (by kernel_rfl))))).2.1),
      FreeV.d_load _ rfl rfl (fun β bs W hS hd => (HS.out W (hS.one ((hd 0 8 rfl).2 (.inl (by kernel_rfl))))).2.2.1),
      FreeV.d_ask2 _ rfl rfl hx34 (fun β bs W hS hd => ((tword_any x0.nd.head 1 W).mono fun e w' he => ⟨he.1, he.2 ▸ hS⟩)),
      d_get3 rfl rfl hx33 0 rfl (fun β bs W hS hd => ((HS.out W (hS.one ((hd 0 8 rfl).2 (.inr rfl)))).2.2.2).mono fun e W2 hE => xk_call hS ((hd 0 8 rfl).2 (.inr rfl)) hE),
      trivial⟩,
      fun β => by kernel_rfl, fun β => by kernel_rfl, by kernel_rfl, fun β => by kernel_rfl, by kernel_rfl⟩ xk_start (fun β => Free.from_ 55 [.pointer (some ⟨w.heap.size, 0, none⟩), .pointer (some ⟨wG.heap.size, 2, none⟩), .slice (some ⟨gn, on, none⟩) 1 nc, .pointer (some ⟨gn, on, none⟩), .int .i64 cc, .pointer (some ⟨wG.heap.size, 1, none⟩), .int .i64 x0.nd.head, .int .i64 (tword x0.nd.head 1), (β 8)] ++ [(14, (β 8))]) (fun β => by kernel_rfl) ?_
  intro β w10 h10
  rw [FreeX.puts_append, Free.puts_from _ _ _ (Nat.le_of_ble_eq_true rfl)]
  simp only [List.take_succ_cons, List.take_zero, List.drop_succ_cons, List.drop_zero, List.cons_append, List.nil_append, List.length_cons, List.length_nil, Nat.reduceAdd]
  unfold Free.puts
  simp only [List.foldl_cons, List.foldl_nil]
  obtain ⟨e8, t5, G5, hD5⟩ := h10.two rfl
  have c3 := (LocM.svarD HZ.out.1 hD5 HY.out.var).cell (i := 3) rfl
  have ch0 : w10.cell? ⟨gh, oh, none⟩ = some (.int .i64 x0.h) := (hD5.sys.rowAt (HY.out.ha.more hD5.gro.1) rfl).1 0 _ (ints_get (l := l.map Nod.h) (by rw [List.getElem?_map, HZ.out.2.2.2.1]; rfl))
  have hs6 := search_call hD5.sys (ptDo_quiet w b) 60 (by obtain ⟨-, -, -, -, -, h6, -, -, -, h10, h11⟩ := HM.out; omega) x0.h ⟨#[98]⟩ (0, nd0, 6) m6 HM.out.2.2.2.2.1
  have HD5 := Lib.hid hD5
  rw [e8]
  clear h10 e8 hD5 HS cn1 cn2
  simp only [Act.put, List.setIfInBounds_toArray, List.set_cons_succ, List.set_cons_zero]
  go_wp2_with fail
  refine hs6.mono ?_
  rintro e wI ⟨t6, G6, p6, rfl, -, ha⟩
  have HE : Hid (ButN [b, c, r] w.heap.size w (wI.alloc (.cells (nd0.row p6).toArray 38))) := ((HD5.out.aft ha).later ((Below.refl _ _).alloc (Nat.le_refl _) _)).but
  unfold Nd.v
  simp only [Nd.row, nd0] at HE
  simp only [nd0]
  clear hs6 ha c3 ch0
  rcases HR.out with rfl | rfl
  · go_wp2_with fail
    go_ret
    exact ⟨_, rfl, rfl, HE.out⟩
  · go_wp2_with fail
    go_ret
    exact ⟨_, rfl, rfl, HE.out⟩
end
end Go.Proofs.YtibimnibmengpaaDoor
