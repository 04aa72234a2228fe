/- What TowerLeads does by its port. No condition. -/
import Derived.Test.YtibimnibmengpaaDoorVp
namespace Go.Proofs.YtibimnibmengpaaDoor
open Go.RowKit Go.Op
set_option maxRecDepth 100000

theorem he24 (zs : Array Value) (w : World) : (callFunc 24 zs).run Tryd.prog w = .ok (.enter 24 zs) w := by kernel_rfl
theorem hx27 (zs : Array Value) (w : World) : (callFunc 27 zs).run Tryd.prog w = .ok (.enter 27 zs) w := by kernel_rfl
/-- Within a region that asks once. -/
structure XN (w2 : World) (v : Value) (P : World → Prop) (bs : List Bool) (β : Nat → Value) (W : World) : Prop where
  one : bs[0]? = some false → Below w2.heap.size w2 W
  two : bs[0]? = some true → β 7 = v ∧ P W
theorem xn_start {w2 : World} {v : Value} {P : World → Prop} {β : Nat → Value} : XN w2 v P [false] β w2.drew := ⟨fun _ => (Below.refl _ _).drew, fun e => (by cases e)⟩
theorem xn_call {w2 W W2 : World} {v : Value} {P : World → Prop} {bs : List Bool} {β : Nat → Value} {e : Ending} (_ : XN w2 v P bs β W) (b0 : bs[0]? = some false) (h : e = .returned v ∧ P W2) : ∃ u, e = .returned u ∧ XN w2 v P (bs.set 0 true) (FreeV.upd β 7 u) W2 :=
  ⟨v, h.1, fun e => (by rw [set_at b0] at e; cases e), fun _ => ⟨by simp [FreeV.upd], h.2⟩⟩
theorem next_call {w0 : World} {b c r pb po : Nat} {t1 : Value} {G1 : List (Nat × List Value)} {W : World} {m1 : M} {s : Pt} (h : SysE w0 b c r pb po t1 G1 W m1 s) (hq : Quiet s) (hc : m1.count ≤ 900000) (nd : Nd) (p : Pl) (hin : nd.d.In G1 p) (lv : Int) (a : Int × Int) (m2 : M) (hgo : (nextP nd lv).go m1 = (a, m2)) :
    Calls Tryd.prog 27 #[.pointer (some ⟨pb, po, none⟩), nd.v p, .int .i64 lv] W fun e w' => ∃ t2 G2, e = .returned (.tuple #[.int .i64 a.1, .int .i64 a.2]) ∧ Aft w0 b c r pb po t1 G1 W t2 G2 w' m2 s := by
  refine (Next_E h hc nd p hin lv).mono ?_
  rintro e w' hE
  obtain ⟨t2, G2, v, rfl, hR, ha⟩ := hE.done hq
  rw [hgo] at hR ha
  exact ⟨t2, G2, by rw [hR], ha⟩
theorem next_out (nd : Nd) (lv : Int) (m : M) (h : lv < 0 ∨ (nd.nx.length : Int) ≤ lv) : (nextP nd lv).go m = ((0, 10), m) := by
  rw [nextP, if_neg (by omega)]
  rfl
theorem toV_toN {vl : List (Vw × Vs)} {l : List Nod} (hv : vl.map Prod.fst = l.map Nod.vw) {i : Nat} (hi : i < l.length) {lv : Int} (h0 : 0 ≤ lv) : toV vl (i : Int) lv = toN lv (l.drop (i + 1)) := by
  have hl : vl.length = l.length := by have := congrArg List.length hv; simpa using this
  rw [toV, if_neg (by omega), Int.toNat_natCast]
  refine toF_toN _ _ _ ?_
  rw [List.map_drop, List.map_drop, hv]
theorem Good.hts {m : M} {lows : List ByteArray} {hts : List Int} {l : List Nod} (h : Good m lows hts l) : hts = l.map fun x => (x.links.length : Int) := by
  refine List.ext_getElem? fun j => ?_
  rw [List.getElem?_map]
  cases hx : l[j]? with
  | some x => rw [(h.nod hx).2.2.1]; rfl
  | none => rw [List.getElem?_eq_none (by have := List.getElem?_eq_none_iff.1 hx; have := h.ll; have := h.len; omega)]; rfl
/-- In the midst of a call of Do. -/
def PL (w0 : World) (b c r : Nat) (G : List (Nat × List Value)) (w : World) (W : World) : Prop := ∃ t4 G4 m4, Dgo w0 b c r w.heap.size [b, c, r] w t4 G G4 W m4 (ptDo w b)
section
variable {w0 w : World} {b c r : Nat} {G : List (Nat × List Value)} {m : M} {gl ol cl gt ot ct gh oh ch n : Nat} {l : List Nod} {lows : List ByteArray} {hts : List Int} {zy za zl : Nat}
set_option maxHeartbeats 8000000 in
theorem leads1_any (h : Yw w0 b c r G m gl ol cl gt ot ct gh oh ch n l lows hts zy w) (at_ lv : Int) (hat2 : -9223372036854775808 ≤ at_ ∧ at_ ≤ 9223372036854775807) (hlv2 : -9223372036854775808 ≤ lv ∧ lv ≤ 9223372036854775807) (sa : SVar w za [.int .i64 at_]) (sl : SVar w zl [.int .i64 lv]) (za1 : za ∉ [b, c, r]) (zl1 : zl ∉ [b, c, r]) :
    Calls Tryd.prog 24 (#[.pointer (some ⟨w.heap.size, 0, none⟩)] ++ #[.pointer (some ⟨zy, 0, none⟩), .pointer (some ⟨za, 0, none⟩), .pointer (some ⟨zl, 0, none⟩)]) (w.alloc (portObj b)) fun e w' => ∃ u, e = .returned u ∧ u = .iface 4 (.bool true) ∧ ButN [b, c, r] w.heap.size w w' := by
  have hD := Dgo.start h.has (Z := [b, c, r]) ⟨by simp, by simp, by simp⟩
  have hg := h.good
  have hcn := hg.cnt
  have hll := hg.ll
  have hnn := h.nn
  have hn0 : 0 < n := by rw [hnn]; exact (List.getElem?_eq_some_iff.1 hg.zero).1
  have hln : l.length = n := by omega
  have hn41 : n ≤ 41 := by have := hg.few; omega
  obtain ⟨x0, hx0⟩ : ∃ x, l[0]? = some x := ⟨_, List.getElem?_eq_getElem (by omega)⟩
  obtain ⟨m3, p1, p2⟩ := hg.walk hg.ok hx0
  have hzz : zy ∉ [b, c, r] := by
    have := h.zne
    simp only [List.mem_cons, List.not_mem_nil, or_false]; omega
  have c3 := LocM.cellD hzz h.var.lt hD (h.var.cell (i := 3) rfl)
  have ch0 : (w.alloc (portObj b)).cell? ⟨gh, oh, none⟩ = some (.int .i64 x0.h) := (hD.sys.rowAt h.ha rfl).1 0 _ (ints_get (l := l.map Nod.h) (by rw [List.getElem?_map, hx0]; rfl))
  have hwk := walks_call hD.sys (ptDo_quiet w b) 41 (by omega) (by omega) x0.h l (fun e => by rw [e] at hln; simp at hln; omega) m3 p1
  rw [hln] at hwk
  have HY := Lib.hid h
  have HD := Lib.hid hD
  have hR3 := hg.ok.asked p2
  have HP := Lib.hid (⟨hzz, za1, zl1, sa, sl, hln, hR3, show m3.count ≤ 2000 by have := p2.cnt; omega⟩ : _ ∧ _ ∧ _ ∧ _ ∧ _ ∧ _ ∧ _ ∧ _)
  have hn1 : (n : Int) ≤ 41 := by omega
  have hn2 : (1 : Int) ≤ (n : Int) := by omega
  show Calls Tryd.prog 24 #[.pointer (some ⟨w.heap.size, 0, none⟩), .pointer (some ⟨zy, 0, none⟩), .pointer (some ⟨za, 0, none⟩), .pointer (some ⟨zl, 0, none⟩)] (w.alloc (portObj b)) _
  have mk := mkb4
  have mixed : Tryd.prog.follows .mixedOrders = true := by kernel_rfl
  clear h hD hg hcn hll hnn hx0 p1 p2 hzz sa sl za1 zl1 hln hR3
  generalize w.alloc (portObj b) = wp at *
  go_enter Tryd.func24, Tryd.ntmps24
  go_wp2_with fail
  refine hwk.mono ?_
  rintro e w3 ⟨t3, G3, g, cap, vl, rfl, hV, ha⟩
  have hD3 := HD.out.aft ha
  have c3' := LocM.cellD HP.out.1 HY.out.var.lt hD3 (HY.out.var.cell (i := 3) rfl)
  have c2' := LocM.cellD HP.out.1 HY.out.var.lt hD3 (HY.out.var.cell (i := 2) rfl)
  have ca := (LocM.svarD HP.out.2.1 hD3 HP.out.2.2.2.1).cell (i := 0) rfl
  have cv := (LocM.svarD HP.out.2.2.1 hD3 HP.out.2.2.2.2.1).cell (i := 0) rfl
  have hvl : vl.length = n := by rw [hV.len]; exact HP.out.2.2.2.2.2.1
  have hto := toV_any w3 (some ⟨g, 0, none⟩) cap vl hV.row hV.cap at_ lv
  rw [hvl] at hto
  have HV := Lib.hid (⟨hV, hvl, hD3⟩ : _ ∧ _ ∧ _)
  clear hwk hV ha hD3 hvl c3 ch0
  by_cases hneg : at_ < 0
  · have e0 : toV vl at_ lv = 0 := if_pos (.inl hneg)
    rw [e0] at hto
    have hge : ¬ 0 ≤ at_ := by omega
    clear e0
    go_wp2_with fail
    refine hto.mono ?_
    rintro e w4 ⟨rfl, hb4⟩
    have hD4 := HV.out.2.2.later hb4
    have ca4 := (LocM.svarD HP.out.2.1 hD4 HP.out.2.2.2.1).cell (i := 0) rfl
    have HE := Lib.hid hD4.but
    clear hto hb4 hD4 c3' c2' ca cv
    go_wp2_with fail
    go_ret
    exact ⟨_, rfl, rfl, HE.out⟩
  by_cases hbig : (n : Int) ≤ at_
  · have e0 : toV vl at_ lv = 0 := if_pos (.inr (.inl (by rw [HV.out.2.1]; exact hbig)))
    rw [e0] at hto
    have hge : 0 ≤ at_ := by omega
    have hlt : ¬ at_ < (n : Int) := by omega
    have hltd : decide (at_ < (n : Int)) = false := decide_eq_false hlt
    clear e0
    go_wp2_with fail
    refine hto.mono ?_
    rintro e w4 ⟨rfl, hb4⟩
    have hD4 := HV.out.2.2.later hb4
    have ca4 := (LocM.svarD HP.out.2.1 hD4 HP.out.2.2.2.1).cell (i := 0) rfl
    have HE := Lib.hid hD4.but
    clear hto hb4 hD4 c3' c2' ca cv
    go_wp2_with fail
    go_ret
    exact ⟨_, rfl, rfl, HE.out⟩
  obtain ⟨i, rfl⟩ : ∃ i : Nat, at_ = (i : Int) := ⟨at_.toNat, by omega⟩
  have hin : i < n := by omega
  have hin1 : (i : Int) < (n : Int) := by omega
  have hin0 : (0 : Int) ≤ (i : Int) := by omega
  obtain ⟨hV, hvl, hD3⟩ := HV.out
  obtain ⟨y, hy⟩ : ∃ y, l[i]? = some y := ⟨_, List.getElem?_eq_getElem (by rw [HP.out.2.2.2.2.2.1]; exact hin)⟩
  obtain ⟨xv, hxv⟩ : ∃ x, vl[i]? = some x := ⟨_, List.getElem?_eq_getElem (by rw [hvl]; exact hin)⟩
  have exv : xv.1 = y.vw := by
    have h1 : (vl.map Prod.fst)[i]? = some xv.1 := by rw [List.getElem?_map, hxv]; rfl
    rw [hV.vs, List.getElem?_map, hy] at h1
    exact (Option.some.inj h1).symm
  have hNod := HP.out.2.2.2.2.2.2.1.nod y (List.mem_of_getElem? hy)
  have hyl : hts[i]? = some (y.links.length : Int) := (HY.out.good.nod hy).2.2.1
  have hpin : y.nd.d.In G3 ⟨xv.2.pn, .nil, .nil, .nil⟩ := by
    have := (hV.inn xv (List.mem_of_getElem? hxv)).1
    rw [exv] at this
    exact this
  have hnr : w3.rangeAt g (0 + i * 16 + 1) (y.nd.row ⟨xv.2.pn, .nil, .nil, .nil⟩) := by
    obtain ⟨g', o', e1, -, hr⟩ := hV.row.at_ hxv
    cases e1
    rw [exv] at hr
    intro j u hj
    rw [Nat.add_assoc _ 1 j]
    exact hr (1 + j) u (by
      match j, hj with
      | 0, hj => exact hj
      | 1, hj => exact hj
      | 2, hj => exact hj
      | j + 3, hj => simp [Nd.row] at hj)
  have hgl : g < w3.heap.size := by
    obtain ⟨g', o', e1, h1, -⟩ := hV.row.at_ hxv
    cases e1
    exact h1
  have hlen8 := (HY.out.good.hs hy).1
  have cti : w3.cell? ⟨gt, ot + i, none⟩ = some (.int .i64 (y.links.length : Int)) := (hD3.sys.rowAt (HY.out.ta.more hD3.gro.1) rfl).1 i _ (ints_get hyl)
  obtain ⟨N, hN⟩ : ∃ N, N = y.links.length := ⟨_, rfl⟩
  rw [← hN] at hyl cti hlen8
  have hN8 : (N : Int) ≤ 8 := by omega
  have HNx := Lib.hid (⟨hpin, hnr, hgl, hNod, hN, hy, hyl, hV.vs⟩ : _ ∧ _ ∧ _ ∧ _ ∧ _ ∧ _ ∧ _ ∧ _)
  have HS : Hid (∀ (rh re : Int) (m4 : M), (nextP y.nd lv).go m3 = ((rh, re), m4) → ∀ W, Below w3.heap.size w3 W → (Instr.loadAt 3 (.pointer (some ⟨za, 0, none⟩))).run Tryd.prog W = .ok (.int .i64 (i : Int)) W ∧ (Instr.loadAt 38 (.pointer (some ⟨g, 0 + i * 16 + 1, none⟩))).run Tryd.prog W = .ok (.agg #[.string y.nd.low, .int .i64 y.nd.head, .slice xv.2.pn.a xv.2.pn.n xv.2.pn.cap]) W ∧ (Instr.loadAt 3 (.pointer (some ⟨zl, 0, none⟩))).run Tryd.prog W = .ok (.int .i64 lv) W ∧
      Calls Tryd.prog 27 #[.pointer (some ⟨w.heap.size, 0, none⟩), .agg #[.string y.nd.low, .int .i64 y.nd.head, .slice xv.2.pn.a xv.2.pn.n xv.2.pn.cap], .int .i64 lv] W fun e w' => e = .returned (.tuple #[.int .i64 rh, .int .i64 re]) ∧ PL w0 b c r G w w') := fun rh re m4 hgo W hb => by
    have hDW := hD3.later hb
    have ca := (LocM.svarD HP.out.2.1 hDW HP.out.2.2.2.1).cell (i := 0) rfl
    have cv := (LocM.svarD HP.out.2.2.1 hDW HP.out.2.2.2.2.1).cell (i := 0) rfl
    refine ⟨load_3 ca, load_mid (sub := y.nd.row ⟨xv.2.pn, .nil, .nil, .nil⟩) (rangeAt_same hnr (hb.block g hgl)) sh27, load_3 cv, ?_⟩
    refine (next_call hDW.sys (ptDo_quiet w b) (by have := HP.out.2.2.2.2.2.2.2; omega) y.nd ⟨xv.2.pn, .nil, .nil, .nil⟩ hpin lv (rh, re) m4 hgo).mono ?_
    rintro e w' ⟨t4, G4, rfl, ha⟩
    exact ⟨rfl, t4, G4, m4, hDW.aft ha⟩
  clear hV hvl hD3 hy hxv exv hNod hyl hpin hnr hgl hN hlen8
  have hge : ¬ (n : Int) ≤ (i : Int) := by omega
  by_cases hl0 : lv < 0
  · have e0 : toV vl (i : Int) lv = 0 := if_pos (.inr (.inr hl0))
    rw [e0] at hto
    have hl1 : ¬ 0 ≤ lv := by omega
    have HT := Lib.hid (HS.out 0 10 m3 (next_out _ _ _ (.inl hl0)))
    clear HS e0 cti c2'
    go_wp2_with fail
    refine hto.mono ?_
    rintro e w4 ⟨rfl, hb4⟩
    have hD4 := HV.out.2.2.later hb4
    have ca4 := (LocM.svarD HP.out.2.1 hD4 HP.out.2.2.2.1).cell (i := 0) rfl
    have HTw := Lib.hid (fun W (hb : Below w4.heap.size w4 W) => HT.out W (hb4.trans (hb.mono hb4.size)))
    have HIn := Lib.hid hin
    clear hto hb4 hD4 HT
    go_wp2_with fail
    refine FreeV.region_puts (S := XN w4 (.tuple #[.int .i64 0, .int .i64 10]) (PL w0 b c r G w)) (effs := [7])
      (tab := [⟨2, fun _ => [.pointer (some ⟨za, 0, none⟩)], fun _ => .int .i64 (i : Int), .read⟩,
        ⟨3, fun _ => [.slice (some ⟨g, 0, none⟩) n cap, .int .i64 (i : Int)], fun _ => .pointer (some ⟨g, 0 + i * 16, none⟩), .pure⟩,
        ⟨5, fun _ => [.pointer (some ⟨g, 0 + i * 16 + 1, none⟩)], fun _ => .agg #[.string y.nd.low, .int .i64 y.nd.head, .slice xv.2.pn.a xv.2.pn.n xv.2.pn.cap], .read⟩,
        ⟨6, fun _ => [.pointer (some ⟨zl, 0, none⟩)], fun _ => .int .i64 lv, .read⟩,
        ⟨7, fun _ => [.func (.func 27) #[] #[], .pointer (some ⟨w.heap.size, 0, none⟩), .agg #[.string y.nd.low, .int .i64 y.nd.head, .slice xv.2.pn.a xv.2.pn.n xv.2.pn.cap], .int .i64 lv], fun β => (β 7), .get⟩,
        ⟨9, fun β => [(β 7)], fun _ => .int .i64 0, .read⟩,
        ⟨10, fun β => [(β 7)], fun _ => .int .i64 10, .read⟩])
      (vs := [([], fun _ => .pointer (some ⟨w.heap.size, 0, none⟩)), ([], fun _ => .slice (some ⟨g, 0, none⟩) n cap), ([], fun _ => .int .i64 (i : Int)), ([], fun _ => .pointer (some ⟨g, 0 + i * 16, none⟩)), ([], fun _ => .pointer (some ⟨g, 0 + i * 16 + 1, none⟩)), ([], fun _ => .agg #[.string y.nd.low, .int .i64 y.nd.head, .slice xv.2.pn.a xv.2.pn.n xv.2.pn.cap]), ([], fun _ => .int .i64 lv), ([7], fun l => l.headD undef), ([7], fun l => l.headD undef), ([], fun _ => .int .i64 0), ([], fun _ => .int .i64 10), ([], fun _ => .int .i64 0), ([], fun _ => .int .i64 10)])
      (by kernel_rfl) ⟨by kernel_rfl, ⟨FreeV.d_load _ rfl rfl (fun β bs W hS hd => (HTw.out W (hS.one ((hd 0 7 rfl).2 (.inl (by kernel_rfl))))).1),
        FreeV.d_at _ rfl rfl (fun _ w => at_44 g 0 n cap i HIn.out w),
        FreeV.d_load _ rfl rfl (fun β bs W hS hd => (HTw.out W (hS.one ((hd 0 7 rfl).2 (.inl (by kernel_rfl))))).2.1),
        FreeV.d_load _ rfl rfl (fun β bs W hS hd => (HTw.out W (hS.one ((hd 0 7 rfl).2 (.inl (by kernel_rfl))))).2.2.1),
        d_get3 rfl rfl hx27 0 rfl (fun β bs W hS hd => ((HTw.out W (hS.one ((hd 0 7 rfl).2 (.inr rfl)))).2.2.2).mono fun e W2 hE => xn_call hS ((hd 0 7 rfl).2 (.inr rfl)) hE),
        FreeV.d_extract _ rfl rfl (fun β bs W hS hd => (by rw [(hS.two ((hd 0 7 rfl).1 (by kernel_rfl))).1]; exact ext0 _ _ _)),
        FreeV.d_extract _ rfl rfl (fun β bs W hS hd => (by rw [(hS.two ((hd 0 7 rfl).1 (by kernel_rfl))).1]; exact ext1 _ _ _)),
        trivial⟩,
        fun β => by kernel_rfl, fun β => by kernel_rfl, by kernel_rfl, fun β => by kernel_rfl, by kernel_rfl⟩ xn_start (fun β => Free.from_ 74 [.pointer (some ⟨w.heap.size, 0, none⟩), .slice (some ⟨g, 0, none⟩) n cap, .int .i64 (i : Int), .pointer (some ⟨g, 0 + i * 16, none⟩), .pointer (some ⟨g, 0 + i * 16 + 1, none⟩), .agg #[.string y.nd.low, .int .i64 y.nd.head, .slice xv.2.pn.a xv.2.pn.n xv.2.pn.cap], .int .i64 lv, (β 7)] ++ [(73, (β 7)), (82, .int .i64 0), (83, .int .i64 10), (10, .int .i64 0), (11, .int .i64 10)]) (fun β => by kernel_rfl) ?_
    intro β w5 h5
    rw [FreeX.puts_append, Free.puts_from _ _ _ (Nat.le_of_ble_eq_true rfl)]
    simp only [List.take_succ_cons, List.take_zero, List.drop_succ_cons, List.drop_zero, List.cons_append, List.nil_append, List.length_cons, List.length_nil, Nat.reduceAdd]
    unfold Free.puts
    simp only [List.foldl_cons, List.foldl_nil]
    obtain ⟨e7, t5, G5, m5, hD5⟩ := h5.two rfl
    rw [e7]
    have cv5 := (LocM.svarD HP.out.2.2.1 hD5 HP.out.2.2.2.2.1).cell (i := 0) rfl
    have ca5 := (LocM.svarD HP.out.2.1 hD5 HP.out.2.2.2.1).cell (i := 0) rfl
    have c25 := LocM.cellD HP.out.1 HY.out.var.lt hD5 (HY.out.var.cell (i := 2) rfl)
    have cti5 : w5.cell? ⟨gt, ot + i, none⟩ = some (.int .i64 (N : Int)) := (hD5.sys.rowAt (HY.out.ta.more hD5.gro.1) rfl).1 i _ (ints_get HNx.out.2.2.2.2.2.2.1)
    have HE := Lib.hid (fun nq => (hD5.later (below_drewN w5 nq)).but)
    clear h5 e7 hD5 HTw
    simp only [Act.put, List.setIfInBounds_toArray, List.set_cons_succ, List.set_cons_zero]
    go_wp2_with fail
    go_quiet (fail)
    go_wp2_with fail
    go_ret
    exact ⟨_, rfl, rfl, HE.out _⟩
  have hl1 : 0 ≤ lv := by omega
  have hrt := refTo_any w3 (some ⟨gt, ot, none⟩) ct hts (by have := HY.out.good.len; have := HY.out.nn; omega) (.inr ⟨gt, ot, rfl, ?_, ?_⟩) i (by omega) lv
  rotate_left
  · exact (HV.out.2.2.sys.rowAt (HY.out.ta.more HV.out.2.2.gro.1) rfl).2 fun e => by have := congrArg List.length e; rw [ints_length, HY.out.good.len, ← HY.out.nn, List.length_nil] at this; omega
  · exact (HV.out.2.2.sys.rowAt (HY.out.ta.more HV.out.2.2.gro.1) rfl).1
  rw [HY.out.good.len, ← HY.out.nn] at hrt
  have hwant := toV_toN HV.out.1.vs (i := i) (by rw [HP.out.2.2.2.2.2.1]; exact hin) hl1
  obtain ⟨want, hw⟩ : ∃ x, x = toN lv (l.drop (i + 1)) := ⟨_, rfl⟩
  rw [hwant, ← hw] at hto
  have HW := Lib.hid hw
  clear hwant hw
  have Hfin : Hid (∀ rr, RefTo hts i lv rr → (0 ≤ rr → ∃ j : Nat, rr = (j : Int) ∧ j < n ∧ w3.cell? ⟨gh, oh + j, none⟩ = some (.int .i64 want)) ∧ (¬ 0 ≤ rr → want = 0)) := fun rr hR => by
    have h1 := refTo_hs (hs := l.map Nod.h) hR (by rw [List.length_map, HY.out.good.len]; exact HY.out.good.ll)
    have e2 : toHs lv (hts.drop (i + 1)) ((l.map Nod.h).drop (i + 1)) = want := by
      rw [HW.out, HY.out.good.hts, ← List.map_drop, ← List.map_drop, toHs_toN]
    rw [e2] at h1
    refine ⟨fun h0 => ?_, fun h0 => by rw [h1, if_neg h0]⟩
    rw [if_pos h0] at h1
    rcases hR with ⟨e, -⟩ | ⟨j, x, rfl, -, hx, -⟩
    · omega
    · have hj := (List.getElem?_eq_some_iff.1 hx).1
      have hjn : j < n := by have := HY.out.good.len; have := HY.out.nn; omega
      refine ⟨j, rfl, hjn, (HV.out.2.2.sys.rowAt (HY.out.ha.more HV.out.2.2.gro.1) rfl).1 j _ (ints_get ?_)⟩
      rw [Int.toNat_natCast, List.getD_eq_getElem?_getD] at h1
      rw [h1, List.getElem?_eq_getElem (by rw [List.length_map, HP.out.2.2.2.2.2.1]; exact hjn)]
      rfl
  by_cases hlN : lv < (N : Int)
  · have HT : Hid (∀ W, Below w3.heap.size w3 W → _) := HS.out want 0 m3.ask (by
      obtain ⟨-, -, -, hNod, hN, hy, -, -⟩ := HNx.out
      obtain ⟨k, rfl⟩ : ∃ k : Nat, lv = (k : Int) := ⟨lv.toNat, by omega⟩
      obtain ⟨u, hu⟩ : ∃ u, y.links[k]? = some u := ⟨_, List.getElem?_eq_getElem (by omega)⟩
      rw [next_go hNod hu, HP.out.2.2.2.2.2.2.1.to_ i y k u hy hu, HW.out])
    have hNl : ¬ (N : Int) ≤ lv := by omega
    have hNld : decide ((N : Int) ≤ lv) = false := decide_eq_false hNl
    clear HS
    go_wp2_with fail
    refine hrt.mono ?_
    rintro e w3' ⟨⟨rr, rfl, hR⟩, rfl⟩
    have hF := Hfin.out rr hR
    by_cases hr0 : 0 ≤ rr
    · obtain ⟨j, rfl, hjn, chj⟩ := hF.1 hr0
      have hj1 : (j : Int) < (n : Int) := by omega
      clear hrt hR hF
      go_wp2_with fail
      refine hto.mono ?_
      rintro e w4 ⟨rfl, hb4⟩
      have hD4 := HV.out.2.2.later hb4
      have ca4 := (LocM.svarD HP.out.2.1 hD4 HP.out.2.2.2.1).cell (i := 0) rfl
      have HTw := Lib.hid (fun W (hb : Below w4.heap.size w4 W) => HT.out W (hb4.trans (hb.mono hb4.size)))
      have HIn := Lib.hid hin
      clear hto hb4 hD4 HT
      go_wp2_with fail
      refine FreeV.region_puts (S := XN w4 (.tuple #[.int .i64 want, .int .i64 0]) (PL w0 b c r G w)) (effs := [7])
        (tab := [⟨2, fun _ => [.pointer (some ⟨za, 0, none⟩)], fun _ => .int .i64 (i : Int), .read⟩,
          ⟨3, fun _ => [.slice (some ⟨g, 0, none⟩) n cap, .int .i64 (i : Int)], fun _ => .pointer (some ⟨g, 0 + i * 16, none⟩), .pure⟩,
          ⟨5, fun _ => [.pointer (some ⟨g, 0 + i * 16 + 1, none⟩)], fun _ => .agg #[.string y.nd.low, .int .i64 y.nd.head, .slice xv.2.pn.a xv.2.pn.n xv.2.pn.cap], .read⟩,
          ⟨6, fun _ => [.pointer (some ⟨zl, 0, none⟩)], fun _ => .int .i64 lv, .read⟩,
          ⟨7, fun _ => [.func (.func 27) #[] #[], .pointer (some ⟨w.heap.size, 0, none⟩), .agg #[.string y.nd.low, .int .i64 y.nd.head, .slice xv.2.pn.a xv.2.pn.n xv.2.pn.cap], .int .i64 lv], fun β => (β 7), .get⟩,
          ⟨9, fun β => [(β 7)], fun _ => .int .i64 want, .read⟩,
          ⟨10, fun β => [(β 7)], fun _ => .int .i64 0, .read⟩])
        (vs := [([], fun _ => .pointer (some ⟨w.heap.size, 0, none⟩)), ([], fun _ => .slice (some ⟨g, 0, none⟩) n cap), ([], fun _ => .int .i64 (i : Int)), ([], fun _ => .pointer (some ⟨g, 0 + i * 16, none⟩)), ([], fun _ => .pointer (some ⟨g, 0 + i * 16 + 1, none⟩)), ([], fun _ => .agg #[.string y.nd.low, .int .i64 y.nd.head, .slice xv.2.pn.a xv.2.pn.n xv.2.pn.cap]), ([], fun _ => .int .i64 lv), ([7], fun l => l.headD undef), ([7], fun l => l.headD undef), ([], fun _ => .int .i64 want), ([], fun _ => .int .i64 0), ([], fun _ => .int .i64 want), ([], fun _ => .int .i64 0)])
        (by kernel_rfl) ⟨by kernel_rfl, ⟨FreeV.d_load _ rfl rfl (fun β bs W hS hd => (HTw.out W (hS.one ((hd 0 7 rfl).2 (.inl (by kernel_rfl))))).1),
          FreeV.d_at _ rfl rfl (fun _ w => at_44 g 0 n cap i HIn.out w),
          FreeV.d_load _ rfl rfl (fun β bs W hS hd => (HTw.out W (hS.one ((hd 0 7 rfl).2 (.inl (by kernel_rfl))))).2.1),
          FreeV.d_load _ rfl rfl (fun β bs W hS hd => (HTw.out W (hS.one ((hd 0 7 rfl).2 (.inl (by kernel_rfl))))).2.2.1),
          d_get3 rfl rfl hx27 0 rfl (fun β bs W hS hd => ((HTw.out W (hS.one ((hd 0 7 rfl).2 (.inr rfl)))).2.2.2).mono fun e W2 hE => xn_call hS ((hd 0 7 rfl).2 (.inr rfl)) hE),
          FreeV.d_extract _ rfl rfl (fun β bs W hS hd => (by rw [(hS.two ((hd 0 7 rfl).1 (by kernel_rfl))).1]; exact ext0 _ _ _)),
          FreeV.d_extract _ rfl rfl (fun β bs W hS hd => (by rw [(hS.two ((hd 0 7 rfl).1 (by kernel_rfl))).1]; exact ext1 _ _ _)),
          trivial⟩,
          fun β => by kernel_rfl, fun β => by kernel_rfl, by kernel_rfl, fun β => by kernel_rfl, by kernel_rfl⟩ xn_start (fun β => Free.from_ 74 [.pointer (some ⟨w.heap.size, 0, none⟩), .slice (some ⟨g, 0, none⟩) n cap, .int .i64 (i : Int), .pointer (some ⟨g, 0 + i * 16, none⟩), .pointer (some ⟨g, 0 + i * 16 + 1, none⟩), .agg #[.string y.nd.low, .int .i64 y.nd.head, .slice xv.2.pn.a xv.2.pn.n xv.2.pn.cap], .int .i64 lv, (β 7)] ++ [(73, (β 7)), (82, .int .i64 want), (83, .int .i64 0), (10, .int .i64 want), (11, .int .i64 0)]) (fun β => by kernel_rfl) ?_
      intro β w5 h5
      rw [FreeX.puts_append, Free.puts_from _ _ _ (Nat.le_of_ble_eq_true rfl)]
      simp only [List.take_succ_cons, List.take_zero, List.drop_succ_cons, List.drop_zero, List.cons_append, List.nil_append, List.length_cons, List.length_nil, Nat.reduceAdd]
      unfold Free.puts
      simp only [List.foldl_cons, List.foldl_nil]
      obtain ⟨e7, t5, G5, m5, hD5⟩ := h5.two rfl
      rw [e7]
      have cv5 := (LocM.svarD HP.out.2.2.1 hD5 HP.out.2.2.2.2.1).cell (i := 0) rfl
      have ca5 := (LocM.svarD HP.out.2.1 hD5 HP.out.2.2.2.1).cell (i := 0) rfl
      have c25 := LocM.cellD HP.out.1 HY.out.var.lt hD5 (HY.out.var.cell (i := 2) rfl)
      have cti5 : w5.cell? ⟨gt, ot + i, none⟩ = some (.int .i64 (N : Int)) := (hD5.sys.rowAt (HY.out.ta.more hD5.gro.1) rfl).1 i _ (ints_get HNx.out.2.2.2.2.2.2.1)
      have HE := Lib.hid (fun nq => (hD5.later (below_drewN w5 nq)).but)
      clear h5 e7 hD5 HTw
      simp only [Act.put, List.setIfInBounds_toArray, List.set_cons_succ, List.set_cons_zero]
      go_wp2_with fail
      go_quiet (fail)
      go_wp2_with fail
      go_ret
      exact ⟨_, rfl, rfl, HE.out _⟩
    · have hw0 := hF.2 (by omega)
      subst hw0
      clear hrt hR hF
      go_wp2_with fail
      refine hto.mono ?_
      rintro e w4 ⟨rfl, hb4⟩
      have hD4 := HV.out.2.2.later hb4
      have ca4 := (LocM.svarD HP.out.2.1 hD4 HP.out.2.2.2.1).cell (i := 0) rfl
      have HTw := Lib.hid (fun W (hb : Below w4.heap.size w4 W) => HT.out W (hb4.trans (hb.mono hb4.size)))
      have HIn := Lib.hid hin
      clear hto hb4 hD4 HT
      go_wp2_with fail
      refine FreeV.region_puts (S := XN w4 (.tuple #[.int .i64 0, .int .i64 0]) (PL w0 b c r G w)) (effs := [7])
        (tab := [⟨2, fun _ => [.pointer (some ⟨za, 0, none⟩)], fun _ => .int .i64 (i : Int), .read⟩,
          ⟨3, fun _ => [.slice (some ⟨g, 0, none⟩) n cap, .int .i64 (i : Int)], fun _ => .pointer (some ⟨g, 0 + i * 16, none⟩), .pure⟩,
          ⟨5, fun _ => [.pointer (some ⟨g, 0 + i * 16 + 1, none⟩)], fun _ => .agg #[.string y.nd.low, .int .i64 y.nd.head, .slice xv.2.pn.a xv.2.pn.n xv.2.pn.cap], .read⟩,
          ⟨6, fun _ => [.pointer (some ⟨zl, 0, none⟩)], fun _ => .int .i64 lv, .read⟩,
          ⟨7, fun _ => [.func (.func 27) #[] #[], .pointer (some ⟨w.heap.size, 0, none⟩), .agg #[.string y.nd.low, .int .i64 y.nd.head, .slice xv.2.pn.a xv.2.pn.n xv.2.pn.cap], .int .i64 lv], fun β => (β 7), .get⟩,
          ⟨9, fun β => [(β 7)], fun _ => .int .i64 0, .read⟩,
          ⟨10, fun β => [(β 7)], fun _ => .int .i64 0, .read⟩])
        (vs := [([], fun _ => .pointer (some ⟨w.heap.size, 0, none⟩)), ([], fun _ => .slice (some ⟨g, 0, none⟩) n cap), ([], fun _ => .int .i64 (i : Int)), ([], fun _ => .pointer (some ⟨g, 0 + i * 16, none⟩)), ([], fun _ => .pointer (some ⟨g, 0 + i * 16 + 1, none⟩)), ([], fun _ => .agg #[.string y.nd.low, .int .i64 y.nd.head, .slice xv.2.pn.a xv.2.pn.n xv.2.pn.cap]), ([], fun _ => .int .i64 lv), ([7], fun l => l.headD undef), ([7], fun l => l.headD undef), ([], fun _ => .int .i64 0), ([], fun _ => .int .i64 0), ([], fun _ => .int .i64 0), ([], fun _ => .int .i64 0)])
        (by kernel_rfl) ⟨by kernel_rfl, ⟨FreeV.d_load _ rfl rfl (fun β bs W hS hd => (HTw.out W (hS.one ((hd 0 7 rfl).2 (.inl (by kernel_rfl))))).1),
          FreeV.d_at _ rfl rfl (fun _ w => at_44 g 0 n cap i HIn.out w),
          FreeV.d_load _ rfl rfl (fun β bs W hS hd => (HTw.out W (hS.one ((hd 0 7 rfl).2 (.inl (by kernel_rfl))))).2.1),
          FreeV.d_load _ rfl rfl (fun β bs W hS hd => (HTw.out W (hS.one ((hd 0 7 rfl).2 (.inl (by kernel_rfl))))).2.2.1),
          d_get3 rfl rfl hx27 0 rfl (fun β bs W hS hd => ((HTw.out W (hS.one ((hd 0 7 rfl).2 (.inr rfl)))).2.2.2).mono fun e W2 hE => xn_call hS ((hd 0 7 rfl).2 (.inr rfl)) hE),
          FreeV.d_extract _ rfl rfl (fun β bs W hS hd => (by rw [(hS.two ((hd 0 7 rfl).1 (by kernel_rfl))).1]; exact ext0 _ _ _)),
          FreeV.d_extract _ rfl rfl (fun β bs W hS hd => (by rw [(hS.two ((hd 0 7 rfl).1 (by kernel_rfl))).1]; exact ext1 _ _ _)),
          trivial⟩,
          fun β => by kernel_rfl, fun β => by kernel_rfl, by kernel_rfl, fun β => by kernel_rfl, by kernel_rfl⟩ xn_start (fun β => Free.from_ 74 [.pointer (some ⟨w.heap.size, 0, none⟩), .slice (some ⟨g, 0, none⟩) n cap, .int .i64 (i : Int), .pointer (some ⟨g, 0 + i * 16, none⟩), .pointer (some ⟨g, 0 + i * 16 + 1, none⟩), .agg #[.string y.nd.low, .int .i64 y.nd.head, .slice xv.2.pn.a xv.2.pn.n xv.2.pn.cap], .int .i64 lv, (β 7)] ++ [(73, (β 7)), (82, .int .i64 0), (83, .int .i64 0), (10, .int .i64 0), (11, .int .i64 0)]) (fun β => by kernel_rfl) ?_
      intro β w5 h5
      rw [FreeX.puts_append, Free.puts_from _ _ _ (Nat.le_of_ble_eq_true rfl)]
      simp only [List.take_succ_cons, List.take_zero, List.drop_succ_cons, List.drop_zero, List.cons_append, List.nil_append, List.length_cons, List.length_nil, Nat.reduceAdd]
      unfold Free.puts
      simp only [List.foldl_cons, List.foldl_nil]
      obtain ⟨e7, t5, G5, m5, hD5⟩ := h5.two rfl
      rw [e7]
      have cv5 := (LocM.svarD HP.out.2.2.1 hD5 HP.out.2.2.2.2.1).cell (i := 0) rfl
      have ca5 := (LocM.svarD HP.out.2.1 hD5 HP.out.2.2.2.1).cell (i := 0) rfl
      have c25 := LocM.cellD HP.out.1 HY.out.var.lt hD5 (HY.out.var.cell (i := 2) rfl)
      have cti5 : w5.cell? ⟨gt, ot + i, none⟩ = some (.int .i64 (N : Int)) := (hD5.sys.rowAt (HY.out.ta.more hD5.gro.1) rfl).1 i _ (ints_get HNx.out.2.2.2.2.2.2.1)
      have HE := Lib.hid (fun nq => (hD5.later (below_drewN w5 nq)).but)
      clear h5 e7 hD5 HTw
      simp only [Act.put, List.setIfInBounds_toArray, List.set_cons_succ, List.set_cons_zero]
      go_wp2_with fail
      go_quiet (fail)
      go_wp2_with fail
      go_ret
      exact ⟨_, rfl, rfl, HE.out _⟩
  · have HT : Hid (∀ W, Below w3.heap.size w3 W → _) := HS.out 0 10 m3 (next_out _ _ _ (.inr (by
      obtain ⟨-, -, -, hNod, hN, hy, -, -⟩ := HNx.out
      rw [hNod.len]; omega)))
    have hNl : (N : Int) ≤ lv := by omega
    clear HS
    go_wp2_with fail
    refine hrt.mono ?_
    rintro e w3' ⟨⟨rr, rfl, hR⟩, rfl⟩
    have hF := Hfin.out rr hR
    by_cases hr0 : 0 ≤ rr
    · obtain ⟨j, rfl, hjn, chj⟩ := hF.1 hr0
      have hj1 : (j : Int) < (n : Int) := by omega
      clear hrt hR hF
      go_wp2_with fail
      refine hto.mono ?_
      rintro e w4 ⟨rfl, hb4⟩
      have hD4 := HV.out.2.2.later hb4
      have ca4 := (LocM.svarD HP.out.2.1 hD4 HP.out.2.2.2.1).cell (i := 0) rfl
      have HTw := Lib.hid (fun W (hb : Below w4.heap.size w4 W) => HT.out W (hb4.trans (hb.mono hb4.size)))
      have HIn := Lib.hid hin
      clear hto hb4 hD4 HT
      go_wp2_with fail
      refine FreeV.region_puts (S := XN w4 (.tuple #[.int .i64 0, .int .i64 10]) (PL w0 b c r G w)) (effs := [7])
        (tab := [⟨2, fun _ => [.pointer (some ⟨za, 0, none⟩)], fun _ => .int .i64 (i : Int), .read⟩,
          ⟨3, fun _ => [.slice (some ⟨g, 0, none⟩) n cap, .int .i64 (i : Int)], fun _ => .pointer (some ⟨g, 0 + i * 16, none⟩), .pure⟩,
          ⟨5, fun _ => [.pointer (some ⟨g, 0 + i * 16 + 1, none⟩)], fun _ => .agg #[.string y.nd.low, .int .i64 y.nd.head, .slice xv.2.pn.a xv.2.pn.n xv.2.pn.cap], .read⟩,
          ⟨6, fun _ => [.pointer (some ⟨zl, 0, none⟩)], fun _ => .int .i64 lv, .read⟩,
          ⟨7, fun _ => [.func (.func 27) #[] #[], .pointer (some ⟨w.heap.size, 0, none⟩), .agg #[.string y.nd.low, .int .i64 y.nd.head, .slice xv.2.pn.a xv.2.pn.n xv.2.pn.cap], .int .i64 lv], fun β => (β 7), .get⟩,
          ⟨9, fun β => [(β 7)], fun _ => .int .i64 0, .read⟩,
          ⟨10, fun β => [(β 7)], fun _ => .int .i64 10, .read⟩])
        (vs := [([], fun _ => .pointer (some ⟨w.heap.size, 0, none⟩)), ([], fun _ => .slice (some ⟨g, 0, none⟩) n cap), ([], fun _ => .int .i64 (i : Int)), ([], fun _ => .pointer (some ⟨g, 0 + i * 16, none⟩)), ([], fun _ => .pointer (some ⟨g, 0 + i * 16 + 1, none⟩)), ([], fun _ => .agg #[.string y.nd.low, .int .i64 y.nd.head, .slice xv.2.pn.a xv.2.pn.n xv.2.pn.cap]), ([], fun _ => .int .i64 lv), ([7], fun l => l.headD undef), ([7], fun l => l.headD undef), ([], fun _ => .int .i64 0), ([], fun _ => .int .i64 10), ([], fun _ => .int .i64 0), ([], fun _ => .int .i64 10)])
        (by kernel_rfl) ⟨by kernel_rfl, ⟨FreeV.d_load _ rfl rfl (fun β bs W hS hd => (HTw.out W (hS.one ((hd 0 7 rfl).2 (.inl (by kernel_rfl))))).1),
          FreeV.d_at _ rfl rfl (fun _ w => at_44 g 0 n cap i HIn.out w),
          FreeV.d_load _ rfl rfl (fun β bs W hS hd => (HTw.out W (hS.one ((hd 0 7 rfl).2 (.inl (by kernel_rfl))))).2.1),
          FreeV.d_load _ rfl rfl (fun β bs W hS hd => (HTw.out W (hS.one ((hd 0 7 rfl).2 (.inl (by kernel_rfl))))).2.2.1),
          d_get3 rfl rfl hx27 0 rfl (fun β bs W hS hd => ((HTw.out W (hS.one ((hd 0 7 rfl).2 (.inr rfl)))).2.2.2).mono fun e W2 hE => xn_call hS ((hd 0 7 rfl).2 (.inr rfl)) hE),
          FreeV.d_extract _ rfl rfl (fun β bs W hS hd => (by rw [(hS.two ((hd 0 7 rfl).1 (by kernel_rfl))).1]; exact ext0 _ _ _)),
          FreeV.d_extract _ rfl rfl (fun β bs W hS hd => (by rw [(hS.two ((hd 0 7 rfl).1 (by kernel_rfl))).1]; exact ext1 _ _ _)),
          trivial⟩,
          fun β => by kernel_rfl, fun β => by kernel_rfl, by kernel_rfl, fun β => by kernel_rfl, by kernel_rfl⟩ xn_start (fun β => Free.from_ 74 [.pointer (some ⟨w.heap.size, 0, none⟩), .slice (some ⟨g, 0, none⟩) n cap, .int .i64 (i : Int), .pointer (some ⟨g, 0 + i * 16, none⟩), .pointer (some ⟨g, 0 + i * 16 + 1, none⟩), .agg #[.string y.nd.low, .int .i64 y.nd.head, .slice xv.2.pn.a xv.2.pn.n xv.2.pn.cap], .int .i64 lv, (β 7)] ++ [(73, (β 7)), (82, .int .i64 0), (83, .int .i64 10), (10, .int .i64 0), (11, .int .i64 10)]) (fun β => by kernel_rfl) ?_
      intro β w5 h5
      rw [FreeX.puts_append, Free.puts_from _ _ _ (Nat.le_of_ble_eq_true rfl)]
      simp only [List.take_succ_cons, List.take_zero, List.drop_succ_cons, List.drop_zero, List.cons_append, List.nil_append, List.length_cons, List.length_nil, Nat.reduceAdd]
      unfold Free.puts
      simp only [List.foldl_cons, List.foldl_nil]
      obtain ⟨e7, t5, G5, m5, hD5⟩ := h5.two rfl
      rw [e7]
      have cv5 := (LocM.svarD HP.out.2.2.1 hD5 HP.out.2.2.2.2.1).cell (i := 0) rfl
      have ca5 := (LocM.svarD HP.out.2.1 hD5 HP.out.2.2.2.1).cell (i := 0) rfl
      have c25 := LocM.cellD HP.out.1 HY.out.var.lt hD5 (HY.out.var.cell (i := 2) rfl)
      have cti5 : w5.cell? ⟨gt, ot + i, none⟩ = some (.int .i64 (N : Int)) := (hD5.sys.rowAt (HY.out.ta.more hD5.gro.1) rfl).1 i _ (ints_get HNx.out.2.2.2.2.2.2.1)
      have HE := Lib.hid (fun nq => (hD5.later (below_drewN w5 nq)).but)
      clear h5 e7 hD5 HTw
      simp only [Act.put, List.setIfInBounds_toArray, List.set_cons_succ, List.set_cons_zero]
      go_wp2_with fail
      go_quiet (fail)
      go_wp2_with fail
      go_ret
      exact ⟨_, rfl, rfl, HE.out _⟩
    · have hw0 := hF.2 (by omega)
      subst hw0
      clear hrt hR hF
      go_wp2_with fail
      refine hto.mono ?_
      rintro e w4 ⟨rfl, hb4⟩
      have hD4 := HV.out.2.2.later hb4
      have ca4 := (LocM.svarD HP.out.2.1 hD4 HP.out.2.2.2.1).cell (i := 0) rfl
      have HTw := Lib.hid (fun W (hb : Below w4.heap.size w4 W) => HT.out W (hb4.trans (hb.mono hb4.size)))
      have HIn := Lib.hid hin
      clear hto hb4 hD4 HT
      go_wp2_with fail
      refine FreeV.region_puts (S := XN w4 (.tuple #[.int .i64 0, .int .i64 10]) (PL w0 b c r G w)) (effs := [7])
        (tab := [⟨2, fun _ => [.pointer (some ⟨za, 0, none⟩)], fun _ => .int .i64 (i : Int), .read⟩,
          ⟨3, fun _ => [.slice (some ⟨g, 0, none⟩) n cap, .int .i64 (i : Int)], fun _ => .pointer (some ⟨g, 0 + i * 16, none⟩), .pure⟩,
          ⟨5, fun _ => [.pointer (some ⟨g, 0 + i * 16 + 1, none⟩)], fun _ => .agg #[.string y.nd.low, .int .i64 y.nd.head, .slice xv.2.pn.a xv.2.pn.n xv.2.pn.cap], .read⟩,
          ⟨6, fun _ => [.pointer (some ⟨zl, 0, none⟩)], fun _ => .int .i64 lv, .read⟩,
          ⟨7, fun _ => [.func (.func 27) #[] #[], .pointer (some ⟨w.heap.size, 0, none⟩), .agg #[.string y.nd.low, .int .i64 y.nd.head, .slice xv.2.pn.a xv.2.pn.n xv.2.pn.cap], .int .i64 lv], fun β => (β 7), .get⟩,
          ⟨9, fun β => [(β 7)], fun _ => .int .i64 0, .read⟩,
          ⟨10, fun β => [(β 7)], fun _ => .int .i64 10, .read⟩])
        (vs := [([], fun _ => .pointer (some ⟨w.heap.size, 0, none⟩)), ([], fun _ => .slice (some ⟨g, 0, none⟩) n cap), ([], fun _ => .int .i64 (i : Int)), ([], fun _ => .pointer (some ⟨g, 0 + i * 16, none⟩)), ([], fun _ => .pointer (some ⟨g, 0 + i * 16 + 1, none⟩)), ([], fun _ => .agg #[.string y.nd.low, .int .i64 y.nd.head, .slice xv.2.pn.a xv.2.pn.n xv.2.pn.cap]), ([], fun _ => .int .i64 lv), ([7], fun l => l.headD undef), ([7], fun l => l.headD undef), ([], fun _ => .int .i64 0), ([], fun _ => .int .i64 10), ([], fun _ => .int .i64 0), ([], fun _ => .int .i64 10)])
        (by kernel_rfl) ⟨by kernel_rfl, ⟨FreeV.d_load _ rfl rfl (fun β bs W hS hd => (HTw.out W (hS.one ((hd 0 7 rfl).2 (.inl (by kernel_rfl))))).1),
          FreeV.d_at _ rfl rfl (fun _ w => at_44 g 0 n cap i HIn.out w),
          FreeV.d_load _ rfl rfl (fun β bs W hS hd => (HTw.out W (hS.one ((hd 0 7 rfl).2 (.inl (by kernel_rfl))))).2.1),
          FreeV.d_load _ rfl rfl (fun β bs W hS hd => (HTw.out W (hS.one ((hd 0 7 rfl).2 (.inl (by kernel_rfl))))).2.2.1),
          d_get3 rfl rfl hx27 0 rfl (fun β bs W hS hd => ((HTw.out W (hS.one ((hd 0 7 rfl).2 (.inr rfl)))).2.2.2).mono fun e W2 hE => xn_call hS ((hd 0 7 rfl).2 (.inr rfl)) hE),
          FreeV.d_extract _ rfl rfl (fun β bs W hS hd => (by rw [(hS.two ((hd 0 7 rfl).1 (by kernel_rfl))).1]; exact ext0 _ _ _)),
          FreeV.d_extract _ rfl rfl (fun β bs W hS hd => (by rw [(hS.two ((hd 0 7 rfl).1 (by kernel_rfl))).1]; exact ext1 _ _ _)),
          trivial⟩,
          fun β => by kernel_rfl, fun β => by kernel_rfl, by kernel_rfl, fun β => by kernel_rfl, by kernel_rfl⟩ xn_start (fun β => Free.from_ 74 [.pointer (some ⟨w.heap.size, 0, none⟩), .slice (some ⟨g, 0, none⟩) n cap, .int .i64 (i : Int), .pointer (some ⟨g, 0 + i * 16, none⟩), .pointer (some ⟨g, 0 + i * 16 + 1, none⟩), .agg #[.string y.nd.low, .int .i64 y.nd.head, .slice xv.2.pn.a xv.2.pn.n xv.2.pn.cap], .int .i64 lv, (β 7)] ++ [(73, (β 7)), (82, .int .i64 0), (83, .int .i64 10), (10, .int .i64 0), (11, .int .i64 10)]) (fun β => by kernel_rfl) ?_
      intro β w5 h5
      rw [FreeX.puts_append, Free.puts_from _ _ _ (Nat.le_of_ble_eq_true rfl)]
      simp only [List.take_succ_cons, List.take_zero, List.drop_succ_cons, List.drop_zero, List.cons_append, List.nil_append, List.length_cons, List.length_nil, Nat.reduceAdd]
      unfold Free.puts
      simp only [List.foldl_cons, List.foldl_nil]
      obtain ⟨e7, t5, G5, m5, hD5⟩ := h5.two rfl
      rw [e7]
      have cv5 := (LocM.svarD HP.out.2.2.1 hD5 HP.out.2.2.2.2.1).cell (i := 0) rfl
      have ca5 := (LocM.svarD HP.out.2.1 hD5 HP.out.2.2.2.1).cell (i := 0) rfl
      have c25 := LocM.cellD HP.out.1 HY.out.var.lt hD5 (HY.out.var.cell (i := 2) rfl)
      have cti5 : w5.cell? ⟨gt, ot + i, none⟩ = some (.int .i64 (N : Int)) := (hD5.sys.rowAt (HY.out.ta.more hD5.gro.1) rfl).1 i _ (ints_get HNx.out.2.2.2.2.2.2.1)
      have HE := Lib.hid (fun nq => (hD5.later (below_drewN w5 nq)).but)
      clear h5 e7 hD5 HTw
      simp only [Act.put, List.setIfInBounds_toArray, List.set_cons_succ, List.set_cons_zero]
      go_wp2_with fail
      go_quiet (fail)
      go_wp2_with fail
      go_ret
      exact ⟨_, rfl, rfl, HE.out _⟩
end
end Go.Proofs.YtibimnibmengpaaDoor
