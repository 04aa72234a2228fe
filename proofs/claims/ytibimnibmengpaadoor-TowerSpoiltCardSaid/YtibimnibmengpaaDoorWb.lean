/- What TowerSpoilt does by its port. No condition. -/
import Derived.Test.YtibimnibmengpaaDoorWa
import Derived.Test.YtibimnibmengpaaDoorTy
namespace Go.Proofs.YtibimnibmengpaaDoor
open Go.RowKit Go.Op
set_option maxRecDepth 100000

theorem he28 (zs : Array Value) (w : World) : (callFunc 28 zs).run Tryd.prog w = .ok (.enter 28 zs) w := by kernel_rfl
section
variable {w0 : World} {b c r pb po : Nat} {t1 : Value} {G G1 : List (Nat × List Value)} {W : World} {m1 : M} {s : Pt} {B : Nat} {w : World} {g cap : Nat} {vl : List (Vw × Vs)} {l : List Nod}
/-- A view of a walked row. -/
theorem Walked.view (h : Walked G B w g cap vl l) {i : Nat} {y : Nod} (hy : l[i]? = some y) : ∃ xv, vl[i]? = some xv ∧ xv.1 = y.vw := by
  obtain ⟨xv, hxv⟩ : ∃ x, vl[i]? = some x := ⟨_, List.getElem?_eq_getElem (by rw [h.len]; exact (List.getElem?_eq_some_iff.1 hy).1)⟩
  refine ⟨xv, hxv, ?_⟩
  have h1 : (vl.map Prod.fst)[i]? = some xv.1 := by rw [List.getElem?_map, hxv]; rfl
  rw [h.vs, List.getElem?_map, hy] at h1
  exact (Option.some.inj h1).symm
/-- The row's cells. -/
theorem Walked.range (h : Walked G B w g cap vl l) (hS : SysE w0 b c r pb po t1 G w m1 s) : w.rangeAt g 0 (vrows vl) ∧ g < w.heap.size := by
  obtain ⟨m0, s0, h1, -⟩ := hS
  have h2 := (h1.rows g _ h.mem).1
  exact ⟨fun j u hj => by rw [Nat.zero_add]; exact h2.at_ _ _ hj, h2.lt⟩
end
/-- All that is read of the row, and of what the law was given. -/
structure SF (Z : List Nat) (w : World) (zx g i : Nat) (ua ud ul : Nat) (t : ByteArray) (xw : Int) (vl : List (Vw × Vs)) (x : Vw × Vs) (W : World) : Prop where
  sx : SVar W zx [.int .u8 (ua : Int), .int .u8 (ud : Int), .int .u8 (ul : Int), .string t, .int .i64 xw]
  cell : ∀ j u, (x.1.row x.2)[j]? = some u → W.cell? ⟨g, i * 16 + j, none⟩ = some u
  fz : ∀ j, W.frozen? ⟨g, j, none⟩ = false
  row : VRow W (some ⟨g, 0, none⟩) vl
  range : W.rangeAt g 0 (vrows vl)
  lt : g < W.heap.size
  but : ButN Z w.heap.size w W
section
variable {Z : List Nat} {w W W1 : World} {zx g i ua ud ul : Nat} {t : ByteArray} {xw : Int} {vl : List (Vw × Vs)} {x : Vw × Vs}
theorem SF.later (h : SF Z w zx g i ua ud ul t xw vl x W) (hb : Below W.heap.size W W1) : SF Z w zx g i ua ud ul t xw vl x W1 :=
  ⟨h.sx.later hb, fun j u hj => by
    rw [hb.cell (p := ⟨g, i * 16 + j, none⟩) h.lt]
    exact h.cell j u hj, fun j => by rw [World.frozen?_of_block (w := W) (a := ⟨g, j, none⟩) (hb.block g h.lt)]; exact h.fz j, h.row.later hb, rangeAt_same h.range (hb.block g h.lt), Nat.lt_of_lt_of_le h.lt hb.size, h.but.trans (ButN.of hb h.but.size)⟩
/-- One cell is stored. -/
theorem SF.put (h : SF Z w zx g i ua ud ul t xw vl x W) (hs : Aside g vl) (hx : vl[i]? = some x) (hg : w.heap.size ≤ g) {o : Nat} (ho : o < 16) {v' : Vw} {u : Value} (he : v'.row x.2 = (x.1.row x.2).set o u) (hl : v'.links = x.1.links) :
    VRow (W.setCell ⟨g, i * 16 + o, none⟩ u) (some ⟨g, 0, none⟩) (vl.set i (v', x.2)) ∧ ButN Z w.heap.size w (W.setCell ⟨g, i * 16 + o, none⟩ u) :=
  ⟨h.row.put hs h.lt h.range hx ho he hl, h.but.trans (ButN.but ((But.refl g W).set _ _) h.but.size (.inr hg))⟩
end
theorem stx_3 {w : World} {p : Addr} {u : Value} (x : Int) (h : w.cell? p = some u) (hf : w.frozen? p = false) : (Instr.storeAt 3 (.pointer (some p))  (.int .i64 x)).run Tryd.prog w = .ok () (w.setCell p (.int .i64 x)) := by go_simp
theorem ldx_3 {w : World} {p : Addr} {n : Int} (h : w.cell? p = some (.int .i64 n)) : (Instr.loadAt 3 (.pointer (some p))).run Tryd.prog w = .ok (.int .i64 n) w := by go_simp
/-- A copy of a view's links. -/
theorem copy_links (W : World) (gv ov capv : Nat) (L : List Int) (N : Nat) (hN : N = L.length) (h1 : 1 ≤ N) (h8 : N ≤ 8) (hg : gv < W.heap.size) (hr : W.rangeAt gv ov (ints L)) :
    ∀ ty, ∃ v' W2, (Builtin.append_ #[27, 27] ty #[.slice (some ⟨W.heap.size, 0, none⟩) 0 0, .slice (some ⟨gv, ov, none⟩) N capv]).run Tryd.prog (W.alloc (.cells #[] 3)) = .ok v' W2 ∧
      ∃ g2 cap2, v' = .slice (some ⟨g2, 0, none⟩) N cap2 ∧ W.heap.size ≤ g2 ∧ g2 < W2.heap.size ∧ W2.rangeAt g2 0 (ints L) ∧ (∀ j, W2.frozen? ⟨g2, j, none⟩ = false) ∧ Below W.heap.size W W2 := by
  subst hN
  intro ty
  obtain ⟨i0, hi, hz0, hz1, hz2⟩ := info_parts info3
  have ba : Below W.heap.size W (W.alloc (.cells #[] 3)) := (Below.refl _ W).alloc (Nat.le_refl _) _
  have ho := World.ownsRow_lit (e := 3) (size := 1) (base := W.heap.size) W #[] 0 (Nat.le_refl _) (by decide) rfl
  obtain ⟨a', cap', W2, p1, p2, p3, p4⟩ := own_app 27 8 i0 _ Tryd.underlying27 hi hz0 hz1 hz2 rfl (by decide) ho ba.size ⟨gv, ov, none⟩ L.length capv (ints L) (by rw [ints_length, Nat.mul_one]) (fun j u hj => by
    rw [add_off, ba.cell (p := ⟨gv, ov + j, none⟩) hg]
    exact hr j u hj) (ints_one L) (by omega) (by decide) ty
  rw [Nat.zero_add] at p1 p2
  have p2' : W2.ownsRow W.heap.size 3 1 (.slice a' L.length cap') L.length (ints L) := p2
  rcases own_val p2' with ⟨-, e⟩ | ⟨g2, cap2, e, q1, q2, q3, q4⟩
  · omega
  · cases e
    exact ⟨_, W2, p1, g2, cap', rfl, q2, q3, q4, fun j => World.ownsRow.frozenAt p2' j, ba.trans p4⟩
theorem ints_set (L : List Int) (k : Nat) (y : Int) : ints (L.set k y) = (ints L).set k (.int .i64 y) := by simp [ints, List.map_set]
section
variable {Z : List Nat} {w wr w5 W0 : World} {zx g i ua ud ul : Nat} {t : ByteArray} {xw : Int} {vl : List (Vw × Vs)} {x : Vw × Vs} {g2 cap2 N k : Nat}
/-- A copy of its links is laid into a view, and one of them is stored. -/
theorem SF.link (h : SF Z w zx g i ua ud ul t xw vl x wr) (hs : Aside g vl) (hx : vl[i]? = some x) (hg : w.heap.size ≤ g) (hN : N = x.1.links.length) (hNf : N ≤ 8) (hk : k < N) (hb5 : Below wr.heap.size wr w5) (hg2 : wr.heap.size ≤ g2) (hg5 : g2 < w5.heap.size) (hr5 : w5.rangeAt g2 0 (ints x.1.links))
    (hb0 : Below w5.heap.size (w5.setCell ⟨g, i * 16 + 4, none⟩ (.slice (some ⟨g2, 0, none⟩) N cap2)) W0) :
    VRow (W0.setCell ⟨g2, k, none⟩ (.int .i64 xw)) (some ⟨g, 0, none⟩) (vl.set i (x.1.links' (x.1.links.set k xw), { x.2 with pl := ⟨some ⟨g2, 0, none⟩, N, cap2⟩ })) ∧ ButN Z w.heap.size w (W0.setCell ⟨g2, k, none⟩ (.int .i64 xw)) := by
  have hil := (List.getElem?_eq_some_iff.1 hx).1
  obtain ⟨w6, hw6⟩ : ∃ W, W = w5.setCell ⟨g, i * 16 + 4, none⟩ (.slice (some ⟨g2, 0, none⟩) N cap2) := ⟨_, rfl⟩
  have hs5 := hb5.size
  have hglt := h.lt
  have z6 : w6.heap.size = w5.heap.size := by rw [hw6]; simp [World.setCell]
  have b6 : ∀ z, z ≠ g → w6.heap[z]? = w5.heap[z]? := fun z hz => by rw [hw6]; exact Below.heap_setCell _ _ _ _ hz
  rw [← hw6] at hb0
  obtain ⟨w7, hw7⟩ : ∃ W, W = W0.setCell ⟨g2, k, none⟩ (.int .i64 xw) := ⟨_, rfl⟩
  have hs0 := hb0.size
  have z7 : w7.heap.size = W0.heap.size := by rw [hw7]; simp [World.setCell]
  have b7 : ∀ z, z ≠ g2 → w7.heap[z]? = W0.heap[z]? := fun z hz => by rw [hw7]; exact Below.heap_setCell _ _ _ _ hz
  rw [← hw7]
  have hxr : (x.1.links' (x.1.links.set k xw)).row { x.2 with pl := ⟨some ⟨g2, 0, none⟩, N, cap2⟩ } = (x.1.row x.2).set 4 (.slice (some ⟨g2, 0, none⟩) N cap2) := rfl
  have r6 : w6.rangeAt g 0 (vrows (vl.set i (x.1.links' (x.1.links.set k xw), { x.2 with pl := ⟨some ⟨g2, 0, none⟩, N, cap2⟩ }))) := by
    rw [vrows_set vl i x _ 4 _ hx (by decide) hxr, hw6]
    exact range_set (rangeAt_same h.range (hb5.block g hglt)) (by rw [vrows_length]; omega) _
  have hne : g2 ≠ g := by omega
  have hb : ∀ z, z < wr.heap.size → z ≠ g → w7.heap[z]? = wr.heap[z]? := fun z hz hzg => by
    rw [b7 z (by omega), hb0.block z (by omega), b6 z hzg]
    exact hb5.block z hz
  refine ⟨h.row.turned hs hglt (rangeAt_same r6 (by rw [b7 g (by omega)]; exact hb0.block g (by omega))) (by omega) hb ⟨?_, .inr ⟨g2, 0, rfl, by omega, ?_⟩, ?_⟩, h.but.trans ⟨?_, ?_, ?_, by omega, fun z hz hzn => hb z (by have := h.but.size; omega) (by omega)⟩⟩
  · show N = (x.1.links.set k xw).length
    rw [List.length_set]; exact hN
  · show w7.rangeAt g2 0 (ints (x.1.links.set k xw))
    rw [ints_set, hw7]
    refine range_set (rangeAt_same hr5 ?_) (by rw [ints_length]; omega) _
    rw [hb0.block g2 (by omega)]
    exact b6 g2 hne
  · show (x.1.links.set k xw).length ≤ 1000000
    rw [List.length_set]; omega
  · rw [hw7]; show W0.os = _; rw [hb0.os, hw6]; exact hb5.os
  · rw [hw7]; show W0.tape = _; rw [hb0.tape, hw6]; exact hb5.tape
  · rw [hw7]; show W0.output = _; rw [hb0.output, hw6]; exact hb5.output
end
section
variable {w0 w : World} {b c r : Nat} {G : List (Nat × List Value)} {m : M} {gl ol cl gt ot ct gh oh ch n : Nat} {l : List Nod} {lows : List ByteArray} {hts : List Int} {zy zx : Nat}
set_option maxHeartbeats 8000000 in
theorem spoilt1_any (h : Yw w0 b c r G m gl ol cl gt ot ct gh oh ch n l lows hts zy w) (ua ud ul : Nat) (hua : ua ≤ 255) (hud : ud ≤ 255) (hul : ul ≤ 255) (t : ByteArray) (xw : Int) (sx : SVar w zx [.int .u8 (ua : Int), .int .u8 (ud : Int), .int .u8 (ul : Int), .string t, .int .i64 xw]) (zx1 : zx ∉ [b, c, r]) :
    Calls Tryd.prog 28 (#[.pointer (some ⟨w.heap.size, 0, none⟩)] ++ #[.pointer (some ⟨zy, 0, none⟩), .pointer (some ⟨zx, 0, none⟩)]) (w.alloc (portObj b)) fun e w' => ∃ u, e = .returned u ∧ u = .iface 4 (.bool true) ∧ ButN [b, c, r] w.heap.size w w' := by
  have hD := Dgo.start h.has (Z := [b, c, r]) ⟨by simp, by simp, by simp⟩
  have hg := h.good
  have hcn := hg.cnt
  have hll := hg.ll
  have hnn := h.nn
  have hn0 : 0 < n := by rw [hnn]; exact (List.getElem?_eq_some_iff.1 hg.zero).1
  have hln : l.length = n := by omega
  have hn41 : n ≤ 41 := by have := hg.few; omega
  obtain ⟨x0, hx0⟩ : ∃ x, l[0]? = some x := ⟨_, List.getElem?_eq_getElem (by omega)⟩
  obtain ⟨m3, p1, p2⟩ := hg.walk hg.ok hx0
  have hzz : zy ∉ [b, c, r] := by
    have := h.zne
    simp only [List.mem_cons, List.not_mem_nil, or_false]; omega
  have c3 := LocM.cellD hzz h.var.lt hD (h.var.cell (i := 3) rfl)
  have ch0 : (w.alloc (portObj b)).cell? ⟨gh, oh, none⟩ = some (.int .i64 x0.h) := (hD.sys.rowAt h.ha rfl).1 0 _ (ints_get (l := l.map Nod.h) (by rw [List.getElem?_map, hx0]; rfl))
  have hwk := walks_call hD.sys (ptDo_quiet w b) 41 (by omega) (by omega) x0.h l (fun e => by rw [e] at hln; simp at hln; omega) m3 p1
  rw [hln] at hwk
  have HY := Lib.hid h
  have HD := Lib.hid hD
  have HP := Lib.hid (⟨hzz, zx1, sx, hln, show w.heap.size ≤ (w.alloc (portObj b)).heap.size by simp⟩ : _ ∧ _ ∧ _ ∧ _ ∧ _)
  have hn1 : (n : Int) ≤ 41 := by omega
  have hn2 : (1 : Int) ≤ (n : Int) := by omega
  show Calls Tryd.prog 28 #[.pointer (some ⟨w.heap.size, 0, none⟩), .pointer (some ⟨zy, 0, none⟩), .pointer (some ⟨zx, 0, none⟩)] (w.alloc (portObj b)) _
  have mk := mkb4
  have mixed : Tryd.prog.follows .mixedOrders = true := by kernel_rfl
  clear h hD hg hcn hll hnn hx0 p1 p2 hzz sx zx1 hln
  generalize w.alloc (portObj b) = wp at *
  go_enter Tryd.func28, Tryd.ntmps28
  go_wp2_with fail
  refine hwk.mono ?_
  rintro e w3 ⟨t3, G3, g, cap, vl, rfl, hV, ha⟩
  have hD3 := HD.out.aft ha
  have c3' := LocM.cellD HP.out.1 HY.out.var.lt hD3 (HY.out.var.cell (i := 3) rfl)
  have hvl : vl.length = n := by rw [hV.len]; exact HP.out.2.2.2.1
  obtain ⟨i, hi⟩ : ∃ i : Nat, i = ua % n := ⟨_, rfl⟩
  have hin : i < n := by rw [hi]; exact Nat.mod_lt _ (by omega)
  have hmod : (ua : Int) % (n : Int) = (i : Int) := by rw [hi]; omega
  obtain ⟨y, hy⟩ : ∃ y, l[i]? = some y := ⟨_, List.getElem?_eq_getElem (by rw [HP.out.2.2.2.1]; exact hin)⟩
  obtain ⟨x, hx, exv⟩ := hV.view hy
  have h8 := HY.out.good.hs hy
  have hR := HY.out.good.right hV.vs
  obtain ⟨N, hN⟩ : ∃ N, N = x.1.links.length := ⟨_, rfl⟩
  have hN2 : 1 ≤ N ∧ N ≤ 8 := by rw [hN, exv]; show 1 ≤ y.links.length ∧ y.links.length ≤ 8; omega
  have hlk := hV.row.lk x (List.mem_of_getElem? hx)
  obtain ⟨gv, ov, epl, hgv, hrv⟩ : ∃ gv ov, x.2.pl.a = some ⟨gv, ov, none⟩ ∧ gv < w3.heap.size ∧ w3.rangeAt gv ov (ints x.1.links) := by
    rcases hlk.2.1 with e | e
    · rw [e] at hN; simp at hN; omega
    · exact e
  have hgge : w.heap.size ≤ g := by have := hV.ge; have := HP.out.2.2.2.2; omega
  have hS : SF [b, c, r] w zx g i ua ud ul t xw vl x w3 := ⟨LocM.svarD HP.out.2.1 hD3 HP.out.2.2.1, fun j u hj => by
    obtain ⟨g', o', e', -, hr⟩ := hV.row.at_ hx
    cases e'
    have := hr j u hj
    rwa [Nat.zero_add] at this, hV.fz, hV.row, (hV.range hD3.sys).1, (hV.range hD3.sys).2, hD3.but⟩
  have HQ := Lib.hid (⟨hS, hV.side, hx, hR, hvl, hV.cap, hgge, hN, hgv, hrv⟩ : _ ∧ _ ∧ _ ∧ _ ∧ _ ∧ _ ∧ _ ∧ _ ∧ _ ∧ _)
  have hD3n := hD3.but
  obtain ⟨k, hk⟩ : ∃ k : Nat, k = ul % N := ⟨_, rfl⟩
  have hkN : k < N := by rw [hk]; exact Nat.mod_lt _ (by omega)
  have hmodk : (ul : Int) % (N : Int) = (k : Int) := by rw [hk]; omega
  have hkN1 : (k : Int) < (N : Int) := by omega
  have hk0 : (0 : Int) ≤ (k : Int) := by omega
  have hNz : (N : Int) ≠ 0 := by omega
  have hNm : ¬ (1 : Int) > (N : Int) := by omega
  have hN8 : (N : Int) ≤ 8 := by omega
  have hi1 : (i : Int) < (n : Int) := by omega
  have hi0 : (0 : Int) ≤ (i : Int) := by omega
  have hnz : (n : Int) ≠ 0 := by omega
  have ha1 : (ua : Int) ≤ 255 := by omega
  have ha0 : (0 : Int) ≤ (ua : Int) := by omega
  have hl1 : (ul : Int) ≤ 255 := by omega
  have hl0 : (0 : Int) ≤ (ul : Int) := by omega
  have hd1 : (ud : Int) ≤ 255 := by omega
  have hd0 : (0 : Int) ≤ (ud : Int) := by omega
  have s0 := hS.sx.cell (i := 0) rfl
  have s2 := hS.sx.cell (i := 2) rfl
  have v4 : w3.cell? ⟨g, i * 16 + 4, none⟩ = some (.slice (some ⟨gv, ov, none⟩) N x.2.pl.cap) := by
    rw [hN, ← hlk.1, ← epl]
    exact hS.cell 4 _ rfl
  have HI := Lib.hid (⟨hi, hk, epl, hlk.1⟩ : _ ∧ _ ∧ _ ∧ _)
  clear hwk hV ha hD3 hvl c3 ch0 hi hk hy hx exv h8 hR hN hlk hS hrv hgv hgge epl hD3n
  go_wp2_with fail
  go_quiet (fail)
  have hmx : max (N : Int) 1 = (N : Int) := by omega
  rw [hmx, hmodk, hmod]
  have HBq : Hid (Below w3.heap.size w3 (w3.drewN nq)) := below_drewN _ nq
  have HS := Lib.hid (HQ.out.1.later HBq.out)
  clear hmx hmodk hmod s0 s2 v4 c3'
  generalize w3.drewN nq = wq at *
  have s1 := HS.out.sx.cell (i := 1) rfl
  have s3 := HS.out.sx.cell (i := 3) rfl
  rcases (by omega : ud % 6 = 0 ∨ ud % 6 = 1 ∨ ud % 6 = 2 ∨ ud % 6 = 3 ∨ ud % 6 = 4 ∨ ud % 6 = 5) with hd | hd | hd | hd | hd | hd
  · have hd2 : (ud : Int) % 6 = 0 := by omega
    have v1 : wq.cell? ⟨g, i * 16 + 1, none⟩ = some (.string x.1.nd.low) := HS.out.cell 1 _ rfl
    have f1 : wq.frozen? ⟨g, i * 16 + 1, none⟩ = false := HS.out.fz _
    have HIff : Hid (∀ rb : Bool, (rb = true ↔ RightP (vl.set i (x.1.low' t, x.2))) → rb = (t.toList == x.1.nd.low.toList)) := fun rb hrb => by
      rw [Bool.eq_iff_iff]
      exact hrb.trans (spoil_low HQ.out.2.2.2.1 HQ.out.2.2.1 t)
    clear hd
    go_wp2_with fail
    go_quiet (fail)
    go_wp2_with fail
    clear v1 f1 s1 s3
    have HS2 := HS.out.later (below_drewN wq nq)
    obtain ⟨hrow, hbut⟩ := HS2.put HQ.out.2.1 HQ.out.2.2.1 HQ.out.2.2.2.2.2.2.1 (o := 1) (by decide) (v' := x.1.low' t) (u := .string t) rfl rfl
    obtain ⟨A, hA⟩ : ∃ A, A = (t.toList == x.1.nd.low.toList) := ⟨_, rfl⟩
    rw [← hA] at HIff ⊢
    clear hA
    have hri := rightV_any _ _ cap _ hrow (by rw [List.length_set]; exact HQ.out.2.2.2.2.2.1)
    rw [List.length_set, HQ.out.2.2.2.2.1] at hri
    have HB := Lib.hid hbut
    refine hri.mono ?_
    rintro e w9 ⟨⟨rb, rfl, hrb⟩, hb9⟩
    have HB9 := Lib.hid (hbut.trans (ButN.of hb9 hbut.size))
    obtain rfl : rb = A := HIff.out rb hrb
    clear hri hrow hbut HS2 hb9 hrb HB
    go_wp2_with fail
    go_ret
    exact ⟨_, rfl, by simp, HB9.out⟩
  · have hd2 : (ud : Int) % 6 = 1 := by omega
    have v1 : wq.cell? ⟨g, i * 16 + 8, none⟩ = some (.string x.1.rv.lo) := HS.out.cell 8 _ rfl
    have f1 : wq.frozen? ⟨g, i * 16 + 8, none⟩ = false := HS.out.fz _
    have HIff : Hid (∀ rb : Bool, (rb = true ↔ RightP (vl.set i (x.1.lo' t, x.2))) → rb = (t.toList == x.1.rv.lo.toList)) := fun rb hrb => by
      rw [Bool.eq_iff_iff]
      exact hrb.trans (spoil_lo HQ.out.2.2.2.1 HQ.out.2.2.1 t)
    clear hd
    go_wp2_with fail
    go_quiet (fail)
    go_wp2_with fail
    clear v1 f1 s1 s3
    have HS2 := HS.out.later (below_drewN wq nq)
    obtain ⟨hrow, hbut⟩ := HS2.put HQ.out.2.1 HQ.out.2.2.1 HQ.out.2.2.2.2.2.2.1 (o := 8) (by decide) (v' := x.1.lo' t) (u := .string t) rfl rfl
    obtain ⟨A, hA⟩ : ∃ A, A = (t.toList == x.1.rv.lo.toList) := ⟨_, rfl⟩
    rw [← hA] at HIff ⊢
    clear hA
    have hri := rightV_any _ _ cap _ hrow (by rw [List.length_set]; exact HQ.out.2.2.2.2.2.1)
    rw [List.length_set, HQ.out.2.2.2.2.1] at hri
    have HB := Lib.hid hbut
    refine hri.mono ?_
    rintro e w9 ⟨⟨rb, rfl, hrb⟩, hb9⟩
    have HB9 := Lib.hid (hbut.trans (ButN.of hb9 hbut.size))
    obtain rfl : rb = A := HIff.out rb hrb
    clear hri hrow hbut HS2 hb9 hrb HB
    go_wp2_with fail
    go_ret
    exact ⟨_, rfl, by simp, HB9.out⟩
  · have hd2 : (ud : Int) % 6 = 2 := by omega
    have v1 : wq.cell? ⟨g, i * 16 + 9, none⟩ = some (.string x.1.rv.hi) := HS.out.cell 9 _ rfl
    have f1 : wq.frozen? ⟨g, i * 16 + 9, none⟩ = false := HS.out.fz _
    clear hd
    by_cases hlast : i + 1 = n
    · have hl9 : ((i : Int) == (n : Int) - 1) = true := by rw [beq_iff_eq]; omega
      have HIff : Hid (∀ rb : Bool, (rb = true ↔ RightP (vl.set i (x.1.hi' t, x.2))) → rb = true) := fun rb hrb => hrb.2 (spoil_last HQ.out.2.2.2.1 HQ.out.2.2.1 t (by rw [HQ.out.2.2.2.2.1]; exact hlast))
      cases hA : (t.toList == x.1.rv.hi.toList) with
      | true =>
        go_wp2_with fail
        go_quiet (fail)
        go_wp2_with fail
        clear v1 f1 s1 s3 hA
        have HS2 := HS.out.later (below_drewN wq nq)
        obtain ⟨hrow, hbut⟩ := HS2.put HQ.out.2.1 HQ.out.2.2.1 HQ.out.2.2.2.2.2.2.1 (o := 9) (by decide) (v' := x.1.hi' t) (u := .string t) rfl rfl
        have hri := rightV_any _ _ cap _ hrow (by rw [List.length_set]; exact HQ.out.2.2.2.2.2.1)
        rw [List.length_set, HQ.out.2.2.2.2.1] at hri
        refine hri.mono ?_
        rintro e w9 ⟨⟨rb, rfl, hrb⟩, hb9⟩
        have HB9 := Lib.hid (hbut.trans (ButN.of hb9 hbut.size))
        obtain rfl : rb = true := HIff.out rb hrb
        clear hri hrow hbut HS2 hb9 hrb
        go_wp2_with fail
        go_ret
        exact ⟨_, rfl, by simp, HB9.out⟩
      | false =>
        go_wp2_with fail
        go_quiet (fail)
        go_wp2_with fail
        clear v1 f1 s1 s3 hA
        have HS2 := HS.out.later (below_drewN wq nq)
        obtain ⟨hrow, hbut⟩ := HS2.put HQ.out.2.1 HQ.out.2.2.1 HQ.out.2.2.2.2.2.2.1 (o := 9) (by decide) (v' := x.1.hi' t) (u := .string t) rfl rfl
        have hri := rightV_any _ _ cap _ hrow (by rw [List.length_set]; exact HQ.out.2.2.2.2.2.1)
        rw [List.length_set, HQ.out.2.2.2.2.1] at hri
        refine hri.mono ?_
        rintro e w9 ⟨⟨rb, rfl, hrb⟩, hb9⟩
        have HB9 := Lib.hid (hbut.trans (ButN.of hb9 hbut.size))
        obtain rfl : rb = true := HIff.out rb hrb
        clear hri hrow hbut HS2 hb9 hrb
        go_wp2_with fail
        go_ret
        exact ⟨_, rfl, by simp, HB9.out⟩
    · have hl9 : ((i : Int) == (n : Int) - 1) = false := by rw [beq_eq_false_iff_ne]; omega
      have HIff : Hid (∀ rb : Bool, (rb = true ↔ RightP (vl.set i (x.1.hi' t, x.2))) → rb = (t.toList == x.1.rv.hi.toList)) := fun rb hrb => by
        rw [Bool.eq_iff_iff]
        exact hrb.trans (spoil_hi HQ.out.2.2.2.1 HQ.out.2.2.1 t (by rw [HQ.out.2.2.2.2.1]; omega))
      cases hA : (t.toList == x.1.rv.hi.toList) with
      | true =>
        rw [hA] at HIff
        go_wp2_with fail
        go_quiet (fail)
        go_wp2_with fail
        clear v1 f1 s1 s3 hA
        have HS2 := HS.out.later (below_drewN wq nq)
        obtain ⟨hrow, hbut⟩ := HS2.put HQ.out.2.1 HQ.out.2.2.1 HQ.out.2.2.2.2.2.2.1 (o := 9) (by decide) (v' := x.1.hi' t) (u := .string t) rfl rfl
        have hri := rightV_any _ _ cap _ hrow (by rw [List.length_set]; exact HQ.out.2.2.2.2.2.1)
        rw [List.length_set, HQ.out.2.2.2.2.1] at hri
        refine hri.mono ?_
        rintro e w9 ⟨⟨rb, rfl, hrb⟩, hb9⟩
        have HB9 := Lib.hid (hbut.trans (ButN.of hb9 hbut.size))
        obtain rfl : rb = true := HIff.out rb hrb
        clear hri hrow hbut HS2 hb9 hrb
        go_wp2_with fail
        go_ret
        exact ⟨_, rfl, by simp, HB9.out⟩
      | false =>
        rw [hA] at HIff
        go_wp2_with fail
        go_quiet (fail)
        go_wp2_with fail
        clear v1 f1 s1 s3 hA
        have HS2 := HS.out.later (below_drewN wq nq)
        obtain ⟨hrow, hbut⟩ := HS2.put HQ.out.2.1 HQ.out.2.2.1 HQ.out.2.2.2.2.2.2.1 (o := 9) (by decide) (v' := x.1.hi' t) (u := .string t) rfl rfl
        have hri := rightV_any _ _ cap _ hrow (by rw [List.length_set]; exact HQ.out.2.2.2.2.2.1)
        rw [List.length_set, HQ.out.2.2.2.2.1] at hri
        refine hri.mono ?_
        rintro e w9 ⟨⟨rb, rfl, hrb⟩, hb9⟩
        have HB9 := Lib.hid (hbut.trans (ButN.of hb9 hbut.size))
        obtain rfl : rb = false := HIff.out rb hrb
        clear hri hrow hbut HS2 hb9 hrb
        go_wp2_with fail
        go_ret
        exact ⟨_, rfl, by simp, HB9.out⟩
  · have hd2 : (ud : Int) % 6 = 3 := by omega
    have v1 : wq.cell? ⟨g, i * 16 + 10, none⟩ = some (.bool x.1.rv.all) := HS.out.cell 10 _ rfl
    have f1 : wq.frozen? ⟨g, i * 16 + 10, none⟩ = false := HS.out.fz _
    have HIff : Hid (∀ rb : Bool, (rb = true ↔ RightP (vl.set i (x.1.all' (!x.1.rv.all), x.2))) → rb = false) := fun rb hrb => by
      cases rb with
      | false => rfl
      | true => exact absurd (hrb.1 rfl) (spoil_all HQ.out.2.2.2.1 HQ.out.2.2.1)
    clear hd
    go_wp2_with fail
    clear v1 f1 s1 s3
    have HS2 := HS.out
    obtain ⟨hrow, hbut⟩ := HS2.put HQ.out.2.1 HQ.out.2.2.1 HQ.out.2.2.2.2.2.2.1 (o := 10) (by decide) (v' := x.1.all' (!x.1.rv.all)) (u := .bool (!x.1.rv.all)) rfl rfl
    have hri := rightV_any _ _ cap _ hrow (by rw [List.length_set]; exact HQ.out.2.2.2.2.2.1)
    rw [List.length_set, HQ.out.2.2.2.2.1] at hri
    have HB := Lib.hid hbut
    refine hri.mono ?_
    rintro e w9 ⟨⟨rb, rfl, hrb⟩, hb9⟩
    have HB9 := Lib.hid (hbut.trans (ButN.of hb9 hbut.size))
    obtain rfl : rb = false := HIff.out rb hrb
    clear hri hrow hbut HS2 hb9 hrb HB
    go_wp2_with fail
    go_ret
    exact ⟨_, rfl, by simp, HB9.out⟩
  · have hd2 : (ud : Int) % 6 = 4 := by omega
    have v1 : wq.cell? ⟨g, i * 16 + 11, none⟩ = some (.bool x.1.rv.dead) := HS.out.cell 11 _ rfl
    have f1 : wq.frozen? ⟨g, i * 16 + 11, none⟩ = false := HS.out.fz _
    have HIff : Hid (∀ rb : Bool, (rb = true ↔ RightP (vl.set i (x.1.dead' true, x.2))) → rb = false) := fun rb hrb => by
      cases rb with
      | false => rfl
      | true => exact absurd (hrb.1 rfl) (spoil_dead HQ.out.2.2.2.1 HQ.out.2.2.1)
    clear hd
    go_wp2_with fail
    clear v1 f1 s1 s3
    have HS2 := HS.out
    obtain ⟨hrow, hbut⟩ := HS2.put HQ.out.2.1 HQ.out.2.2.1 HQ.out.2.2.2.2.2.2.1 (o := 11) (by decide) (v' := x.1.dead' true) (u := .bool true) rfl rfl
    have hri := rightV_any _ _ cap _ hrow (by rw [List.length_set]; exact HQ.out.2.2.2.2.2.1)
    rw [List.length_set, HQ.out.2.2.2.2.1] at hri
    have HB := Lib.hid hbut
    refine hri.mono ?_
    rintro e w9 ⟨⟨rb, rfl, hrb⟩, hb9⟩
    have HB9 := Lib.hid (hbut.trans (ButN.of hb9 hbut.size))
    obtain rfl : rb = false := HIff.out rb hrb
    clear hri hrow hbut HS2 hb9 hrb HB
    go_wp2_with fail
    go_ret
    exact ⟨_, rfl, by simp, HB9.out⟩
  · have hd2 : (ud : Int) % 6 = 5 := by omega
    have v4 : wq.cell? ⟨g, i * 16 + 4, none⟩ = some (.slice (some ⟨gv, ov, none⟩) N x.2.pl.cap) := by
      have := HS.out.cell 4 _ rfl
      rwa [HI.out.2.2.1, HI.out.2.2.2, ← HQ.out.2.2.2.2.2.2.2.1] at this
    obtain ⟨u, hu⟩ : ∃ u, x.1.links[k]? = some u := ⟨_, List.getElem?_eq_getElem (by rw [← HQ.out.2.2.2.2.2.2.2.1]; exact hkN)⟩
    have hgv := HQ.out.2.2.2.2.2.2.2.2.1
    have hrq : wq.rangeAt gv ov (ints x.1.links) := rangeAt_same HQ.out.2.2.2.2.2.2.2.2.2 (HBq.out.block gv hgv)
    have cu : wq.cell? ⟨gv, ov + k, none⟩ = some (.int .i64 u) := hrq k _ (ints_get hu)
    have s4 := HS.out.sx.cell (i := 4) rfl
    have htt : ∀ nq, Calls Tryd.prog 29 #[.int .i64 xw] (wq.drewN nq) fun e w' => e = .returned (.int .i64 (tto xw)) ∧ w' = wq.drewN nq := fun nq => (tto_any xw _).mono fun e w' h => ⟨h.1, h.2.symm⟩
    have htu : ∀ nq, Calls Tryd.prog 29 #[.int .i64 u] (wq.drewN nq) fun e w' => e = .returned (.int .i64 (tto u)) ∧ w' = wq.drewN nq := fun nq => (tto_any u _).mono fun e w' h => ⟨h.1, h.2.symm⟩
    obtain ⟨q1, hq1⟩ : ∃ q, q = tto xw := ⟨_, rfl⟩
    obtain ⟨q2, hq2⟩ : ∃ q, q = tto u := ⟨_, rfl⟩
    rw [← hq1] at htt
    rw [← hq2] at htu
    have HR := Lib.hid (⟨hu, hgv, hrq, hq1, hq2⟩ : _ ∧ _ ∧ _ ∧ _ ∧ _)
    clear hd hu hgv hrq hq1 hq2
    go_wp2_with fail
    go_quiet (first | (go_at_call 29; with_reducible refine Calls.quiet_of_same (htt _)) | (go_at_call 29; with_reducible refine Calls.quiet_of_same (htu _)))
    have HS2 := Lib.hid (HS.out.later (below_drewN wq nq))
    have HRr : Hid (gv < (wq.drewN nq).heap.size ∧ (wq.drewN nq).rangeAt gv ov (ints x.1.links)) := by
      have hb := below_drewN wq nq (B := wq.heap.size)
      have h1 : gv < wq.heap.size := Nat.lt_of_lt_of_le HR.out.2.1 HBq.out.size
      exact ⟨Nat.lt_of_lt_of_le h1 hb.size, rangeAt_same HR.out.2.2.1 (hb.block gv h1)⟩
    clear v4 cu s4 s1 s3 htt htu
    generalize wq.drewN nq = wr at *
    have v4 : (wr.alloc (.cells #[] 3)).cell? ⟨g, i * 16 + 4, none⟩ = some (.slice (some ⟨gv, ov, none⟩) N x.2.pl.cap) := by
      have hba : Below wr.heap.size wr (wr.alloc (.cells #[] 3)) := (Below.refl _ wr).alloc (Nat.le_refl _) _
      have := (HS2.out.later hba).cell 4 _ rfl
      rwa [HI.out.2.2.1, HI.out.2.2.2, ← HQ.out.2.2.2.2.2.2.2.1] at this
    have HAp : Hid (∀ ty, ∃ v' W2, (Builtin.append_ #[27, 27] ty #[.slice (some ⟨wr.heap.size, 0, none⟩) 0 0, .slice (some ⟨gv, ov, none⟩) N x.2.pl.cap]).run Tryd.prog (wr.alloc (.cells #[] 3)) = .ok v' W2 ∧
        ∃ g2 cap2, v' = .slice (some ⟨g2, 0, none⟩) N cap2 ∧ W2.cell? ⟨g, i * 16 + 4, none⟩ = some (.slice (some ⟨gv, ov, none⟩) N x.2.pl.cap) ∧ W2.frozen? ⟨g, i * 16 + 4, none⟩ = false ∧ Hid (wr.heap.size ≤ g2 ∧ g2 < W2.heap.size ∧ W2.rangeAt g2 0 (ints x.1.links) ∧ (∀ j, W2.frozen? ⟨g2, j, none⟩ = false) ∧ Below wr.heap.size wr W2)) := fun ty => by
      obtain ⟨v', W2, p1, g2, cap2, e, q1, q2, q3, q4, q5⟩ := copy_links wr gv ov x.2.pl.cap x.1.links N HQ.out.2.2.2.2.2.2.2.1 hN2.1 hN2.2 HRr.out.1 HRr.out.2 ty
      have h5 := HS2.out.later q5
      have := h5.cell 4 _ rfl
      rw [HI.out.2.2.1, HI.out.2.2.2, ← HQ.out.2.2.2.2.2.2.2.1] at this
      exact ⟨v', W2, p1, g2, cap2, e, this, h5.fz _, q1, q2, q3, q4, q5⟩
    go_wp2_with (first | (at_builtin; refine append_run2 rfl (.tmp 78) (.tmp 83) 27 rfl rfl rfl HAp.out ?_; rintro v' w5 ⟨g2, cap2, rfl, c5, f5, HX5⟩; clear HAp) | fail)
    obtain ⟨w6, hw6⟩ : ∃ W, W = w5.setCell ⟨g, i * 16 + 4, none⟩ (.slice (some ⟨g2, 0, none⟩) N cap2) := ⟨_, rfl⟩
    have HX6 : Hid (∀ W0, Below w6.heap.size w6 W0 → VRow (W0.setCell ⟨g2, k, none⟩ (.int .i64 xw)) (some ⟨g, 0, none⟩) (vl.set i (x.1.links' (x.1.links.set k xw), { x.2 with pl := ⟨some ⟨g2, 0, none⟩, N, cap2⟩ })) ∧ ButN [b, c, r] w.heap.size w (W0.setCell ⟨g2, k, none⟩ (.int .i64 xw))) := fun W0 hb0 => by
      have z6 : w6.heap.size = w5.heap.size := by rw [hw6]; simp [World.setCell]
      rw [z6, hw6] at hb0
      exact HS2.out.link HQ.out.2.1 HQ.out.2.2.1 HQ.out.2.2.2.2.2.2.1 HQ.out.2.2.2.2.2.2.2.1 hN2.2 hkN HX5.out.2.2.2.2 HX5.out.1 HX5.out.2.1 HX5.out.2.2.1 hb0
    have HF6 : Hid (∀ W, Below w6.heap.size w6 W → (Instr.loadAt 27 (.pointer (some ⟨g, 0 + i * 16 + 4, none⟩))).run Tryd.prog W = .ok (.slice (some ⟨g2, 0, none⟩) N cap2) W ∧ (Instr.loadAt 3 (.pointer (some ⟨zx, 4, none⟩))).run Tryd.prog W = .ok (.int .i64 xw) W ∧
        (Instr.storeAt 3 (.pointer (some ⟨g2, 0 + k, none⟩)) (.int .i64 xw)).run Tryd.prog W = .ok () (W.setCell ⟨g2, k, none⟩ (.int .i64 xw))) := fun W hbW => by
      obtain ⟨q1, q2, q3, q4, q5⟩ := HX5.out
      have h5 := HS2.out.later q5
      have z6 : w6.heap.size = w5.heap.size := by rw [hw6]; simp [World.setCell]
      have b6 : ∀ z, z ≠ g → w6.heap[z]? = w5.heap[z]? := fun z hz => by rw [hw6]; exact Below.heap_setCell _ _ _ _ hz
      have hglt := HS2.out.lt
      have hzg : zx ≠ g := by have := HP.out.2.2.1.lt; have := HQ.out.2.2.2.2.2.2.1; omega
      have s6 := (h5.sx.same (w1 := w6) (by omega) (b6 zx hzg)).later hbW
      have k4 : W.cell? ⟨g, i * 16 + 4, none⟩ = some (.slice (some ⟨g2, 0, none⟩) N cap2) := by
        rw [hbW.cell (p := ⟨g, i * 16 + 4, none⟩) (by rw [z6]; exact h5.lt), hw6]
        exact set_same c5
      have e2 : W.heap[g2]? = w5.heap[g2]? := (hbW.block g2 (by omega)).trans (b6 g2 (by omega))
      have k2 : W.cell? ⟨g2, k, none⟩ = some (.int .i64 u) := by
        rw [World.cell?_of_block (w := w5) (a := ⟨g2, k, none⟩) e2]
        have := q3 k _ (ints_get HR.out.1)
        rwa [Nat.zero_add] at this
      have f2 : W.frozen? ⟨g2, k, none⟩ = false := by
        rw [World.frozen?_of_block (w := w5) (a := ⟨g2, k, none⟩) e2]
        exact q4 k
      refine ⟨by rw [Nat.zero_add]; exact load_27 k4, ldx_3 (s6.cell (i := 4) rfl), by rw [Nat.zero_add]; exact stx_3 xw k2 f2⟩
    have HIff : Hid (∀ rb : Bool, (rb = true ↔ RightP (vl.set i (x.1.links' (x.1.links.set k xw), { x.2 with pl := ⟨some ⟨g2, 0, none⟩, N, cap2⟩ }))) → rb = (q1 == q2)) := fun rb hrb => by
      rw [Bool.eq_iff_iff, HR.out.2.2.2.1, HR.out.2.2.2.2]
      exact hrb.trans (spoil_link HQ.out.2.2.2.1 HQ.out.2.2.1 HR.out.1 xw _)
    have HIn := Lib.hid (⟨hin, hkN⟩ : _ ∧ _)
    obtain ⟨A, hA⟩ : ∃ A, A = (q1 == q2) := ⟨_, rfl⟩
    rw [← hA] at HIff ⊢
    rw [← hw6]
    clear hA hw6 c5 f5 HX5 v4 hin hkN
    refine FreeV.region_puts (S := LS w6 (fun W => ∃ W0, Below w6.heap.size w6 W0 ∧ W = W0.setCell ⟨g2, k, none⟩ (.int .i64 xw))) (effs := [9])
      (tab := [⟨2, fun _ => [.slice (some ⟨g, 0, none⟩) n cap, .int .i64 (i : Int)], fun _ => .pointer (some ⟨g, 0 + i * 16, none⟩), .pure⟩,
        ⟨4, fun _ => [.pointer (some ⟨g, 0 + i * 16 + 4, none⟩)], fun _ => .slice (some ⟨g2, 0, none⟩) N cap2, .read⟩,
        ⟨7, fun _ => [.pointer (some ⟨zx, 4, none⟩)], fun _ => .int .i64 xw, .read⟩,
        ⟨8, fun _ => [.slice (some ⟨g2, 0, none⟩) N cap2, .int .i64 (k : Int)], fun _ => .pointer (some ⟨g2, 0 + k, none⟩), .pure⟩,
        ⟨9, fun _ => [.pointer (some ⟨g2, 0 + k, none⟩), .int .i64 xw], fun _ => undef, .put⟩])
      (vs := [([], fun _ => .slice (some ⟨g, 0, none⟩) n cap), ([], fun _ => .int .i64 (i : Int)), ([], fun _ => .pointer (some ⟨g, 0 + i * 16, none⟩)), ([], fun _ => .pointer (some ⟨g, 0 + i * 16 + 4, none⟩)), ([], fun _ => .slice (some ⟨g2, 0, none⟩) N cap2), ([], fun _ => .int .i64 (k : Int)), ([], fun _ => .pointer (some ⟨zx, 4, none⟩)), ([], fun _ => .int .i64 xw), ([], fun _ => .pointer (some ⟨g2, 0 + k, none⟩)), ([], fun _ => undef)])
      (by kernel_rfl) ⟨by kernel_rfl, ⟨FreeV.d_at _ rfl rfl (fun _ w => at_44 g 0 n cap i HIn.out.1 w),
        FreeV.d_load _ rfl rfl (fun β bs W hS hd => (HF6.out W (hS.one ((hd 0 9 rfl).2 (.inl (by kernel_rfl))))).1),
        FreeV.d_load _ rfl rfl (fun β bs W hS hd => (HF6.out W (hS.one ((hd 0 9 rfl).2 (.inl (by kernel_rfl))))).2.1),
        FreeV.d_at _ rfl rfl (fun _ w => at_27 g2 0 N cap2 k HIn.out.2 w),
        FreeV.d_store _ rfl rfl 0 rfl (fun β bs W hS hd => ⟨_, (HF6.out W (hS.one ((hd 0 9 rfl).2 (.inr rfl)))).2.2, fun e => (by rw [set_at ((hd 0 9 rfl).2 (.inr rfl))] at e; cases e), fun _ => ⟨W, hS.one ((hd 0 9 rfl).2 (.inr rfl)), rfl⟩⟩),
        trivial⟩,
        fun β => by kernel_rfl, fun β => by kernel_rfl, by kernel_rfl, fun β => by kernel_rfl, by kernel_rfl⟩ ls_start (fun β => Free.from_ 87 [.slice (some ⟨g, 0, none⟩) n cap, .int .i64 (i : Int), .pointer (some ⟨g, 0 + i * 16, none⟩), .pointer (some ⟨g, 0 + i * 16 + 4, none⟩), .slice (some ⟨g2, 0, none⟩) N cap2, .int .i64 (k : Int), .pointer (some ⟨zx, 4, none⟩), .int .i64 xw, .pointer (some ⟨g2, 0 + k, none⟩)]) (fun β => by kernel_rfl) ?_
    intro β w7 h7
    obtain ⟨W0, hb0, rfl⟩ := h7.two rfl
    obtain ⟨hrow, hbut⟩ := HX6.out W0 hb0
    have hri := rightV_any _ _ cap _ hrow (by rw [List.length_set]; exact HQ.out.2.2.2.2.2.1)
    rw [List.length_set, HQ.out.2.2.2.2.1] at hri
    have HBt := Lib.hid hbut
    clear h7 hb0 hrow hbut HX6 HF6
    rw [Free.puts_from _ _ _ (Nat.le_of_ble_eq_true rfl)]
    simp only [List.take_succ_cons, List.take_zero, List.drop_succ_cons, List.drop_zero, List.cons_append, List.nil_append, List.length_cons, List.length_nil, Nat.reduceAdd]
    go_wp2_with fail
    refine hri.mono ?_
    rintro e w9 ⟨⟨rb, rfl, hrb⟩, hb9⟩
    have HB9 := Lib.hid (HBt.out.trans (ButN.of hb9 HBt.out.size))
    obtain rfl : rb = A := HIff.out rb hrb
    clear hri hb9 hrb
    go_wp2_with fail
    go_ret
    exact ⟨_, rfl, by simp, HB9.out⟩
end
end Go.Proofs.YtibimnibmengpaaDoor
