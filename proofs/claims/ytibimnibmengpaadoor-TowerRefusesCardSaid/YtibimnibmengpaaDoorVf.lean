/- What TowerWalks does by its port. No condition. -/
import Derived.Test.YtibimnibmengpaaDoorVe
namespace Go.Proofs.YtibimnibmengpaaDoor
open Go.RowKit Go.Op
set_option maxRecDepth 100000

theorem he18 (zs : Array Value) (w : World) : (callFunc 18 zs).run Tryd.prog w = .ok (.enter 18 zs) w := by kernel_rfl
theorem load_5 {w : World} {p : Addr} {n : Int} (h : w.cell? p = some (.int .u8 n)) : (Instr.loadAt 5 (.pointer (some p))).run Tryd.prog w = .ok (.int .u8 n) w := by go_simp
/-- At the walk's loop. -/
def LWk (w0 : World) (b c r : Nat) (G G3 : List (Nat × List Value)) (w : World) (l : List Nod) (i : Nat) (W : World) : Prop :=
  ∃ t1 G1 m1, Dgo w0 b c r w.heap.size [b, c, r] w t1 G G1 W m1 (ptDo w b) ∧ (∀ x, x ∈ G3 → x ∈ G1) ∧ RowOk m1 l ∧ m1.count ≤ 2000 + 3 * (i : Int)
section
variable {w0 w : World} {b c r : Nat} {G : List (Nat × List Value)} {m : M} {gl ol cl gt ot ct gh oh ch n : Nat} {l : List Nod} {lows : List ByteArray} {hts : List Int} {zy za : Nat}
set_option maxHeartbeats 8000000 in
theorem walks1_any (h : Yw w0 b c r G m gl ol cl gt ot ct gh oh ch n l lows hts zy w) (u : Nat) (hu : u ≤ 255) (sa : SVar w za [.int .u8 (u : Int)]) (za1 : za ∉ [b, c, r]) :
    Calls Tryd.prog 18 (#[.pointer (some ⟨w.heap.size, 0, none⟩)] ++ #[.pointer (some ⟨zy, 0, none⟩), .pointer (some ⟨za, 0, none⟩)]) (w.alloc (portObj b)) fun e w' => ∃ u, e = .returned u ∧ u = .iface 4 (.bool true) ∧ ButN [b, c, r] w.heap.size w w' := by
  have hD := Dgo.start h.has (Z := [b, c, r]) ⟨by simp, by simp, by simp⟩
  have hg := h.good
  have hcn := hg.cnt
  have hll := hg.ll
  have hnn := h.nn
  have hn0 : 0 < n := by rw [hnn]; exact (List.getElem?_eq_some_iff.1 hg.zero).1
  have hln : l.length = n := by omega
  have hn41 : n ≤ 41 := by have := hg.few; omega
  obtain ⟨x0, hx0⟩ : ∃ x, l[0]? = some x := ⟨_, List.getElem?_eq_getElem (by omega)⟩
  obtain ⟨m3, p1, p2⟩ := hg.walk hg.ok hx0
  have hzz : zy ∉ [b, c, r] := by
    have := h.zne
    simp only [List.mem_cons, List.not_mem_nil, or_false]; omega
  have c3 := LocM.cellD hzz h.var.lt hD (h.var.cell (i := 3) rfl)
  have ch0 : (w.alloc (portObj b)).cell? ⟨gh, oh, none⟩ = some (.int .i64 x0.h) := (hD.sys.rowAt h.ha rfl).1 0 _ (ints_get (l := l.map Nod.h) (by rw [List.getElem?_map, hx0]; rfl))
  have hwk := walks_call hD.sys (ptDo_quiet w b) 41 (by omega) (by omega) x0.h l (fun e => by rw [e] at hln; simp at hln; omega) m3 p1
  rw [hln] at hwk
  have HY := Lib.hid h
  have HD := Lib.hid hD
  have hR3 := hg.ok.asked p2
  have HP := Lib.hid (⟨hzz, za1, sa, hln, hR3, show m3.count ≤ 2000 by have := p2.cnt; omega⟩ : _ ∧ _ ∧ _ ∧ _ ∧ _ ∧ _)
  have hn1 : (n : Int) ≤ 41 := by omega
  have hn2 : (1 : Int) ≤ (n : Int) := by omega
  have hu1 : (u : Int) ≤ 255 := by omega
  have hu0 : (0 : Int) ≤ (u : Int) := by omega
  show Calls Tryd.prog 18 #[.pointer (some ⟨w.heap.size, 0, none⟩), .pointer (some ⟨zy, 0, none⟩), .pointer (some ⟨za, 0, none⟩)] (w.alloc (portObj b)) _
  have mk := mkb4
  have mixed : Tryd.prog.follows .mixedOrders = true := by kernel_rfl
  clear h hD hg hcn hll hnn hx0 p1 p2 hzz sa za1 hln hR3
  generalize w.alloc (portObj b) = wp at *
  go_enter Tryd.func18, Tryd.ntmps18
  go_wp2_with fail
  refine hwk.mono ?_
  rintro e w3 ⟨t3, G3, g, cap, vl, rfl, hV, ha⟩
  have hD3 := HD.out.aft ha
  have c3' := LocM.cellD HP.out.1 HY.out.var.lt hD3 (HY.out.var.cell (i := 3) rfl)
  have hvl : vl.length = n := by rw [hV.len]; exact HP.out.2.2.2.1
  have hri := rightV_any w3 (some ⟨g, 0, none⟩) cap vl hV.row hV.cap
  rw [hvl] at hri
  have HRt := Lib.hid (HY.out.good.right hV.vs)
  have HV := Lib.hid hV
  have HD3 := Lib.hid hD3
  clear hwk hV ha hD3 hvl c3 ch0
  go_wp2_with fail
  refine hri.mono ?_
  rintro e w4 ⟨⟨rb, rfl, hrb⟩, hb4⟩
  obtain rfl : rb = true := hrb.2 HRt.out
  have HX0 : Hid (LWk w0 b c r G G3 w l 0 w4) := ⟨t3, G3, m3, HD3.out.later hb4, fun x hx => hx, HP.out.2.2.2.2.1, by have := HP.out.2.2.2.2.2; omega⟩
  clear hri hrb hb4 c3'
  go_wp2_with fail
  go_loopw [7] (fun iv wr => ∃ i : Nat, iv = .int .i64 (i : Int) ∧ i ≤ n ∧ Hid (LWk w0 b c r G G3 w l i wr)) (fun iv _ => n - (intOf iv).toNat)
  case atStart => exact ⟨0, rfl, Nat.zero_le _, HX0⟩
  case round =>
    obtain ⟨i, rfl, hi, hX⟩ := hrel
    obtain ⟨t1, G1, m1, hD1, hsub, hR1, hc1⟩ := hX.out
    by_cases hlt : i < n
    · have hlt2 : (i : Int) < (n : Int) := by omega
      have hi0 : (0 : Int) ≤ (i : Int) := by omega
      obtain ⟨y, hy⟩ : ∃ y, l[i]? = some y := ⟨_, List.getElem?_eq_getElem (by rw [HP.out.2.2.2.1]; exact hlt)⟩
      obtain ⟨xv, hxv, exv⟩ := HV.out.at_ hy
      obtain ⟨q1, q2, q3, q4⟩ := HY.out.good.nod hy
      have h8 := HY.out.good.hs hy
      have hver : y.rv.ver = 3 + (i : Int) := by rw [q4]; rfl
      obtain ⟨N, hN⟩ : ∃ N, N = y.links.length := ⟨_, rfl⟩
      obtain ⟨gv, ov, epl, hpn⟩ : ∃ gv ov, xv.2.pl.a = some ⟨gv, ov, none⟩ ∧ xv.2.pl.n = N := by
        obtain ⟨e1, e2⟩ := HV.out.links hD1.sys hsub hxv
        rw [exv] at e1 e2
        obtain ⟨g', o', e3, -⟩ := e2 0 _ (List.getElem?_eq_getElem h8.2)
        exact ⟨g', o', e3, by rw [e1, hN]; rfl⟩
      -- all that is read of it, in any world ahead
      have HF : Hid (∀ (t5 : Value) (G5 : List (Nat × List Value)) (W : World) (m5 : M), Dgo w0 b c r w.heap.size [b, c, r] w t5 G G5 W m5 (ptDo w b) → (∀ x, x ∈ G3 → x ∈ G5) →
          W.cell? ⟨g, i * 16, none⟩ = some (.int .i64 y.h) ∧ W.cell? ⟨g, i * 16 + 1, none⟩ = some (.string y.nd.low) ∧ W.cell? ⟨g, i * 16 + 4, none⟩ = some (.slice (some ⟨gv, ov, none⟩) N xv.2.pl.cap) ∧ W.cell? ⟨g, i * 16 + 5, none⟩ = some (.int .i64 y.ag) ∧ W.cell? ⟨g, i * 16 + 6, none⟩ = some (.int .i64 (3 + (i : Int))) ∧
          (Instr.loadAt 38 (.pointer (some ⟨g, i * 16 + 1, none⟩))).run Tryd.prog W = .ok (y.nd.v ⟨xv.2.pn, .nil, .nil, .nil⟩) W ∧
          W.cell? ⟨gh, oh + i, none⟩ = some (.int .i64 y.h) ∧ W.cell? ⟨gl, ol + i, none⟩ = some (.string y.nd.low) ∧ W.cell? ⟨gt, ot + i, none⟩ = some (.int .i64 (N : Int)) ∧ SVar W zy [.pointer (some ⟨b, 0, none⟩), .slice (some ⟨gl, ol, none⟩) n cl, .slice (some ⟨gt, ot, none⟩) n ct, .slice (some ⟨gh, oh, none⟩) n ch] ∧
          ∀ (k : Nat) (x : Int), y.links[k]? = some x → W.cell? ⟨gv, ov + k, none⟩ = some (.int .i64 x)) := fun t5 G5 W m5 hDW hs => by
        obtain ⟨hr, -⟩ := HV.out.cells hDW.sys hs hxv
        obtain ⟨-, e2⟩ := HV.out.links hDW.sys hs hxv
        rw [exv] at hr e2
        refine ⟨hr 0 _ rfl, hr 1 _ rfl, by rw [← epl, ← hpn]; exact hr 4 _ rfl, hr 5 _ rfl, by rw [← hver]; exact hr 6 _ rfl, load_mid (sub := y.nd.row ⟨xv.2.pn, .nil, .nil, .nil⟩) (fun j x hj => by
          rw [Nat.add_assoc]
          exact hr (1 + j) x (by
            match j, hj with
            | 0, hj => exact hj
            | 1, hj => exact hj
            | 2, hj => exact hj
            | j + 3, hj => simp [Nd.row] at hj)) sh27, (hDW.sys.rowAt (HY.out.ha.more hDW.gro.1) rfl).1 i _ (ints_get (l := l.map Nod.h) (by rw [List.getElem?_map, hy]; rfl)), (hDW.sys.rowAt (HY.out.la.more hDW.gro.1) rfl).1 i _ (strs_get q2), (hDW.sys.rowAt (HY.out.ta.more hDW.gro.1) rfl).1 i _ (ints_get (by rw [q3, hN])), LocM.svarD HP.out.1 hDW HY.out.var, fun k x hk => ?_⟩
        obtain ⟨g', o', e3, e4⟩ := e2 k x hk
        rw [epl] at e3
        cases e3
        exact e4
      obtain ⟨v0, v1, v4, v5, v6, -, chi, cli, cti, sy, -⟩ := HF.out _ _ _ _ hD1 hsub
      have c1 := sy.cell (i := 1) rfl
      have c2 := sy.cell (i := 2) rfl
      have c3 := sy.cell (i := 3) rfl
      have hN8 : (N : Int) ≤ 8 := by omega
      have hN1 : 1 ≤ N := by omega
      have HDx := Lib.hid (⟨hD1, hsub, hR1, hc1⟩ : _ ∧ _ ∧ _ ∧ _)
      have Hy := Lib.hid (⟨hy, q3, hN, hver⟩ : _ ∧ _ ∧ _ ∧ _)
      clear hX hD1 hsub hR1 hc1 hxv exv q1 q2 q3 q4 h8 hver hN epl hpn sy hy v5
      go_wp2_with fail
      go_quiet (fail)
      obtain ⟨hD1, hsub, hR1, hc1⟩ := HDx.out
      have hDq := hD1.later (below_drewN wr nq)
      generalize wr.drewN nq = wq at *
      obtain ⟨-, -, -, -, -, -, -, -, -, sy, -⟩ := HF.out _ _ _ _ hDq hsub
      have hrowy := sy.load sh29
      have hlk := links_any ⟨b, ⟨some ⟨gl, ol, none⟩, n, cl⟩, ⟨some ⟨gt, ot, none⟩, n, ct⟩, ⟨some ⟨gh, oh, none⟩, n, ch⟩⟩ wq hts (l.map Nod.h) (by rw [List.length_map, HY.out.good.len]; exact HY.out.good.ll) (by rw [HY.out.good.len, ← HY.out.nn]; omega) (.inr ⟨gt, ot, rfl, ?_, ?_⟩) (.inr ⟨gh, oh, rfl, ?_, ?_⟩) ?_ ?_ i N (by rw [Hy.out.2.1, Hy.out.2.2.1]) (by omega)
      rotate_left
      · exact (hDq.sys.rowAt (HY.out.ta.more hDq.gro.1) rfl).2 fun e => by have := congrArg List.length e; rw [ints_length, HY.out.good.len, ← HY.out.nn, List.length_nil] at this; omega
      · exact (hDq.sys.rowAt (HY.out.ta.more hDq.gro.1) rfl).1
      · exact (hDq.sys.rowAt (HY.out.ha.more hDq.gro.1) rfl).2 fun e => by have := congrArg List.length e; rw [ints_length, List.length_map, HP.out.2.2.2.1, List.length_nil] at this; omega
      · exact (hDq.sys.rowAt (HY.out.ha.more hDq.gro.1) rfl).1
      · show n = _; rw [HY.out.good.len]; exact HY.out.nn
      · show n = _; rw [List.length_map]; exact HP.out.2.2.2.1.symm
      have hll : linksL hts (l.map Nod.h) i N = y.links := by rw [Hy.out.2.2.1]; exact HY.out.good.linksL Hy.out.1
      rw [hll] at hlk
      unfold Yr.v at hlk
      simp only at hlk
      have HDq := Lib.hid (⟨hDq, hsub, hR1, hc1⟩ : _ ∧ _ ∧ _ ∧ _)
      clear hll hD1 hsub hR1 hc1 HDx sy v0 v1 v4 v6 chi cli cti c1 c2 c3 hDq
      go_wp2_with (first | ((with_reducible refine load_run ?_ (.tmp 1) 29 ?_ ?_ hrowy ?_); exact rfl; exact rfl; exact rfl) | fail)
      refine hlk.mono ?_
      rintro e w5 ⟨aw, cw, rfl, how, hb5⟩
      obtain ⟨gw, rfl, hcw⟩ : ∃ gw, aw = some ⟨gw, 0, none⟩ ∧ ∀ (k : Nat) (x : Int), y.links[k]? = some x → w5.cell? ⟨gw, k, none⟩ = some (.int .i64 x) ∧ gw < w5.heap.size := by
        rcases own_val how with ⟨-, e1⟩ | ⟨g', cap', e1, -, -, hlt', hr⟩
        · omega
        · cases e1
          exact ⟨g', rfl, fun k x hk => ⟨by have := hr k _ (ints_get hk); rwa [Nat.zero_add] at this, hlt'⟩⟩
      have hD5 := HDq.out.1.later hb5
      have HDr := Lib.hid (⟨hD5, HDq.out.2⟩ : _ ∧ _ ∧ _ ∧ _)
      have HCw := Lib.hid hcw
      clear hlk how hb5 hD5 HDq hcw hrowy
      go_wp2_with fail
      go_loopw [9] (fun jv wr2 => ∃ k : Nat, jv = .int .i64 (k : Int) ∧ k ≤ N ∧ Hid (Below w5.heap.size w5 wr2)) (fun jv _ => N - (intOf jv).toNat)
      case atStart => exact ⟨0, rfl, Nat.zero_le _, Below.refl _ _⟩
      case round =>
        obtain ⟨k, rfl, hk, hB⟩ := hrel
        by_cases hkN : k < N
        · have hkN2 : (k : Int) < (N : Int) := by omega
          have hk0 : (0 : Int) ≤ (k : Int) := by omega
          obtain ⟨x, hx⟩ : ∃ x, y.links[k]? = some x := ⟨_, List.getElem?_eq_getElem (by rw [← Hy.out.2.2.1]; exact hkN)⟩
          have hDr := HDr.out.1.later hB.out
          obtain ⟨-, -, v4, -, -, -, -, -, -, -, hlx⟩ := HF.out _ _ _ _ hDr HDr.out.2.1
          have cvk := hlx k x hx
          have cwk : wr.cell? ⟨gw, k, none⟩ = some (.int .i64 x) := by rw [hB.out.cell (p := ⟨gw, k, none⟩) (HCw.out k x hx).2]; exact (HCw.out k x hx).1
          have HB2 : Hid (∀ nq, Below w5.heap.size w5 (wr.drewN nq)) := fun nq => hB.out.trans (below_drewN _ nq)
          clear hDr hlx hx hB
          go_wp2_with fail
          go_quiet (fail)
          go_wp2_with fail
          go_roundw
          case rel => exact ⟨k + 1, by simp, by omega, HB2.out _⟩
          case measure => simp [intOf]; omega
        · have hkN2 : ¬ (k : Int) < (N : Int) := by omega
          have hD6 := HDr.out.1.later hB.out
          obtain ⟨-, -, -, -, -, hnl, -⟩ := HF.out _ _ _ _ hD6 HDr.out.2.1
          obtain ⟨m2, hA2, hnc⟩ := newest_call hD6.sys (ptDo_quiet w b) (by have := HDr.out.2.2.2; omega) ⟨xv.2.pn, .nil, .nil, .nil⟩ (HDr.out.2.2.1.nod y (List.mem_of_getElem? Hy.out.1))
          have HD6 := Lib.hid hD6
          have HA2 := Lib.hid hA2
          unfold Nd.v at hnl hnc
          simp only at hnl hnc
          clear hB hD6 hA2
          go_wp2_with (first | ((with_reducible refine load_run ?_ (.tmp 126) 38 ?_ ?_ hnl ?_); exact rfl; exact rfl; exact rfl) | fail)
          refine hnc.mono ?_
          rintro e w7 ⟨t7, G7, q7, rfl, ha⟩
          obtain ⟨w8, hw8⟩ : ∃ W, W = w7.alloc (.cells ((⟨y.rv, y.pv⟩ : Ag).row q7).toArray 57) := ⟨_, rfl⟩
          have hb8 : Below w7.heap.size w7 w8 := by rw [hw8]; exact (Below.refl _ _).alloc (Nat.le_refl _) _
          have sA : SVar w8 w7.heap.size ((⟨y.rv, y.pv⟩ : Ag).row q7) := by rw [hw8]; exact snew _ _ _
          have hD8 := (HD6.out.aft ha).later hb8
          have hsub8 : ∀ x, x ∈ G3 → x ∈ G7 := fun x hx => ha.gro.1 x (HDr.out.2.1 x hx)
          obtain ⟨-, -, -, v5, -⟩ := HF.out _ _ _ _ hD8 hsub8
          have cA := sA.cell (i := 0) rfl
          have hvy : (⟨y.rv, y.pv⟩ : Ag).r.ver = 3 + (i : Int) := Hy.out.2.2.2
          rw [hvy] at cA
          have HX8 : Hid (LWk w0 b c r G G3 w l (i + 1) w8) := ⟨t7, G7, m2, hD8, hsub8, HDr.out.2.2.1.asked HA2.out, by have := HA2.out.cnt; have := HDr.out.2.2.2; omega⟩
          have HW8 := Lib.hid hw8.symm
          unfold Ag.v
          simp only [Ag.row] at HW8
          clear hnl hnc ha hw8 hb8 sA hD8 hsub8 hvy
          go_wp2_with (first | rw [HW8.out] | fail)
          go_roundw
          case rel => exact ⟨i + 1, by simp, by omega, HX8⟩
          case measure => simp [intOf]; omega
    · have hlt2 : ¬ (i : Int) < (n : Int) := by omega
      obtain ⟨j, hj⟩ : ∃ j : Nat, j = u % n := ⟨_, rfl⟩
      have hjn : j < n := by rw [hj]; exact Nat.mod_lt _ (by omega)
      have hmod : (u : Int) % (n : Int) = (j : Int) := by rw [hj]; omega
      have hj1 : (j : Int) < (n : Int) := by omega
      have hj0 : (0 : Int) ≤ (j : Int) := by omega
      have hnz : (n : Int) ≠ 0 := by omega
      obtain ⟨y, hy⟩ : ∃ y, l[j]? = some y := ⟨_, List.getElem?_eq_getElem (by rw [HP.out.2.2.2.1]; exact hjn)⟩
      obtain ⟨xv, hxv, exv⟩ := HV.out.at_ hy
      obtain ⟨q1, q2, q3, q4⟩ := HY.out.good.nod hy
      have hver : y.rv.ver = 3 + (j : Int) := by rw [q4]; rfl
      have h8 := HY.out.good.hs hy
      obtain ⟨N, hN⟩ : ∃ N, N = y.links.length := ⟨_, rfl⟩
      have hpn : xv.2.pl.n = N := by
        obtain ⟨e1, -⟩ := HV.out.links hD1.sys hsub hxv
        rw [exv] at e1
        rw [e1, hN]; rfl
      have sy := LocM.svarD HP.out.1 hD1 HY.out.var
      have c3 := sy.cell (i := 3) rfl
      have ca := (LocM.svarD HP.out.2.1 hD1 HP.out.2.2.1).cell (i := 0) rfl
      have chj : wr.cell? ⟨gh, oh + j, none⟩ = some (.int .i64 y.h) := (hD1.sys.rowAt (HY.out.ha.more hD1.gro.1) rfl).1 j _ (ints_get (l := l.map Nod.h) (by rw [List.getElem?_map, hy]; rfl))
      obtain ⟨m2, hA2, hlc⟩ := look_call hD1.sys (ptDo_quiet w b) (by omega) (hR1.nod y (List.mem_of_getElem? hy))
      have HD1 := Lib.hid (⟨hD1, hsub⟩ : _ ∧ _)
      have HQ := Lib.hid (⟨hxv, exv, hver, hpn, hN, hy⟩ : _ ∧ _ ∧ _ ∧ _ ∧ _ ∧ _)
      have hN8 : (N : Int) ≤ 8 := by omega
      clear hX hD1 hsub hR1 hc1 hj hy hxv exv q1 q2 q3 q4 hver h8 hN hpn sy hA2
      go_wp2_with fail
      refine hlc.mono ?_
      rintro e w5 ⟨t5, G5, q, rfl, hqn, ha⟩
      obtain ⟨hxv, exv, hver, hpn, hN, hy⟩ := HQ.out
      obtain ⟨w6, hw6⟩ : ∃ W, W = w5.alloc (.cells (y.vw.row q).toArray 54) := ⟨_, rfl⟩
      have hb6 : Below w5.heap.size w5 w6 := by rw [hw6]; exact (Below.refl _ _).alloc (Nat.le_refl _) _
      have sV : SVar w6 w5.heap.size (y.vw.row q) := by rw [hw6]; exact snew _ _ _
      have hD6 := (HD1.out.1.aft ha).later hb6
      have hs6 : ∀ x, x ∈ G3 → x ∈ G5 := fun x hx => ha.gro.1 x (HD1.out.2 x hx)
      obtain ⟨hr, -⟩ := HV.out.cells hD6.sys hs6 hxv
      rw [exv] at hr
      have v4 : w6.cell? ⟨g, j * 16 + 4, none⟩ = some (.slice xv.2.pl.a N xv.2.pl.cap) := by rw [← hpn]; exact hr 4 _ rfl
      have v5 : w6.cell? ⟨g, j * 16 + 5, none⟩ = some (.int .i64 y.ag) := hr 5 _ rfl
      have z0 : w6.cell? ⟨w5.heap.size, 0, none⟩ = some (.int .i64 y.h) := sV.cell (i := 0) rfl
      have z4 : w6.cell? ⟨w5.heap.size, 4, none⟩ = some (.slice q.pl.a N q.pl.cap) := by rw [hN, ← hqn]; exact sV.cell (i := 4) rfl
      have z5 : w6.cell? ⟨w5.heap.size, 5, none⟩ = some (.int .i64 y.ag) := sV.cell (i := 5) rfl
      have z6 : w6.cell? ⟨w5.heap.size, 6, none⟩ = some (.int .i64 (3 + (j : Int))) := by rw [← hver]; exact sV.cell (i := 6) rfl
      have sy := LocM.svarD HP.out.1 hD6 HY.out.var
      have c3' := sy.cell (i := 3) rfl
      have chj' : w6.cell? ⟨gh, oh + j, none⟩ = some (.int .i64 y.h) := (hD6.sys.rowAt (HY.out.ha.more hD6.gro.1) rfl).1 j _ (ints_get (l := l.map Nod.h) (by rw [List.getElem?_map, hy]; rfl))
      have HE := Lib.hid (fun nq => (hD6.later (below_drewN w6 nq)).but)
      have HW6 := Lib.hid hw6.symm
      unfold Vw.v Nod.vw
      simp only [Vw.row, Nod.vw] at HW6
      simp only
      clear hlc hqn ha hxv exv hver hpn hN hy hw6 hb6 sV hD6 hs6 hr sy c3 ca chj hmod
      go_wp2_with (first | rw [HW6.out] | fail)
      go_quiet (fail)
      go_wp2_with fail
      go_ret
      exact ⟨_, rfl, rfl, HE.out _⟩
end
end Go.Proofs.YtibimnibmengpaaDoor
