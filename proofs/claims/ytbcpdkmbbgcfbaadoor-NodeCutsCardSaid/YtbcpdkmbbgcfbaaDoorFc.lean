/- NodeCuts's closure. Condition: the library's table stands. -/
import Derived.Test.YtbcpdkmbbgcfbaaDoorFb
namespace Go.Proofs.YtbcpdkmbbgcfbaaDoor
open Go.RowKit Go.Op
set_option maxRecDepth 100000

/-- Within the loop of NodeCuts's closure. -/
def CutsX (w0 : World) (b c r : Nat) (G : List (Nat × List Value)) (w : World) (G3 : List (Nat × List Value)) (m3 : M) (j : Nat) (W : World) : Prop :=
  ∃ (t1 : Value) (G1 : List (Nat × List Value)) (m1 : M), Dgo w0 b c r w.heap.size [b, c, r] w t1 G G1 W m1 (ptDo w b) ∧ (∀ x, x ∈ G3 → x ∈ G1) ∧ AskN m3 m1 (j : Int)
section
variable {w0 w : World} {b c r : Nat} {G : List (Nat × List Value)} {zy zv zn : Nat} {m : M}
set_option maxHeartbeats 4000000 in
theorem cuts1_any (h : HasE w0 b c r G w m) (hcm : m.count ≤ 1000) {y : Yd} {hd p1 p2 : Int} {l : List (Int × Rv × Int)} (h0 : l ≠ []) (hch : Ch m (topOf l) l) (hlen : l.length ≤ 40) (hnd : (flat l).Nodup) (hw : m.look hd = some (.word (topOf l))) (hhd : hd ∉ flat l)
    (hn : y.n = ⟨⟨#[107]⟩, hd, [p1, p2]⟩) (hcs : y.ch.In G (ints (l.map fun x => x.2.1.ver))) (hhs : y.hs.In G (ints (l.map Prod.fst))) (v : Int) (k : Nat) (hk : leftOf v (l.map fun x => x.2.1.ver) = (k : Int))
    (hy : SVar w zy (Yd.row b y)) (ly : zy < w.heap.size ∧ zy ∉ [b, c, r]) (cv : w.cell? ⟨zv, 0, none⟩ = some (.int .i64 v)) (lv : zv < w.heap.size ∧ zv ∉ [b, c, r]) (cn : w.cell? ⟨zn, 0, none⟩ = some (.int .i64 (k : Int))) (ln : zn < w.heap.size ∧ zn ∉ [b, c, r]) :
    Calls Tryd.prog 19 (#[.pointer (some ⟨w.heap.size, 0, none⟩)] ++ #[.pointer (some ⟨zy, 0, none⟩), .pointer (some ⟨zv, 0, none⟩), .pointer (some ⟨zn, 0, none⟩)]) (w.alloc (portObj b)) fun e w' => ∃ u, e = .returned u ∧ u = .iface 4 (.bool true) ∧ Behind w0 b c r G w m l k w' := by
  have hD := Dgo.start h (Z := [b, c, r]) ⟨by simp, by simp, by simp⟩
  obtain ⟨k', m1, m2, ek, hk1, hk2, e1, e2, hF, hc1, hc2⟩ := cut2_go (v := v) hch hw hhd h0 hlen hnd
  obtain rfl : k = k' := by omega
  obtain ⟨n, hnn⟩ : ∃ n, n = l.length := ⟨_, rfl⟩
  have hhn := hhs.n
  have hcn := hcs.n
  rw [ints_length, List.length_map, ← hnn] at hhn hcn
  obtain ⟨x0, hx0⟩ : ∃ x, l[0]? = some x := ⟨_, List.getElem?_eq_getElem (by omega)⟩
  obtain ⟨g, o, ea, -⟩ := hD.sys.slcell (i := 0) hhs (x := .int .i64 x0.1) (ints_get (by rw [List.getElem?_map, hx0]; rfl))
  obtain ⟨gc, oc, eac, -⟩ := hD.sys.slcell (i := 0) hcs (x := .int .i64 x0.2.1.ver) (ints_get (by rw [List.getElem?_map, hx0]; rfl))
  have c5 := hy.cell (i := 5) rfl
  have c6 := hy.cell (i := 6) rfl
  rw [hhn, ea] at c6
  rw [hcn, eac] at c5
  have K0 := Lib.hid (fun (t1 : Value) (G1 : List (Nat × List Value)) (w1 : World) (m1 : M) (s1 : Pt) (hd' : Dgo w0 b c r w.heap.size [b, c, r] w t1 G G1 w1 m1 s1) => (⟨LocM.cellD ly.2 ly.1 hd' c5, LocM.cellD ly.2 ly.1 hd' c6, LocM.cellD lv.2 lv.1 hd' cv, LocM.cellD ln.2 ln.1 hd' cn, fun (j : Nat) (z : Int × Rv × Int) (hz : l[j]? = some z) => (by
    obtain ⟨g', o', ea', ce⟩ := hd'.sys.slcell (i := j) (hhs.more fun x hx => hd'.gro.1 x hx) (x := .int .i64 z.1) (ints_get (by rw [List.getElem?_map, hz]; rfl))
    obtain ⟨g2, o2, ea2, ce2⟩ := hd'.sys.slcell (i := j) (hcs.more fun x hx => hd'.gro.1 x hx) (x := .int .i64 z.2.1.ver) (ints_get (by rw [List.getElem?_map, hz]; rfl))
    rw [ea] at ea'
    cases ea'
    rw [eac] at ea2
    cases ea2
    exact ⟨ce, ce2⟩ : w1.cell? ⟨g, o + j, none⟩ = some (.int .i64 z.1) ∧ w1.cell? ⟨gc, oc + j, none⟩ = some (.int .i64 z.2.1.ver))⟩ : _ ∧ _ ∧ _ ∧ _ ∧ _))
  have hyD : ∀ (t1 : Value) (G1 : List (Nat × List Value)) (w1 : World) (m1 : M) (s1 : Pt), Dgo w0 b c r w.heap.size [b, c, r] w t1 G G1 w1 m1 s1 → SVar w1 zy (Yd.row b y) := fun _ _ _ _ _ hd' => hy.same hd'.but.size (hd'.but.block zy ly.1 ly.2)
  obtain ⟨H, nd, pn, ch, hs⟩ := y
  simp only at *
  subst hn
  have hnod : ∀ W, SVar W zy (Yd.row b ⟨H, ⟨⟨#[107]⟩, hd, [p1, p2]⟩, pn, ch, hs⟩) → (Instr.loadAt 27 (.pointer (some ⟨zy, 2, none⟩))).run Tryd.prog W = .ok (.agg #[.string ⟨#[107]⟩, .int .i64 hd, .slice pn.a pn.n pn.cap]) W := fun W hS => load_mid (z := zy) (o := 2) (ty := 27) (sub := [.string ⟨#[107]⟩, .int .i64 hd, .slice pn.a pn.n pn.cap]) (hS.mid 2 _ (fun j v hj => by
    match j, hj with
    | 0, hj => exact hj
    | 1, hj => exact hj
    | 2, hj => exact hj
    | j + 3, hj => simp at hj)) sh27
  obtain ⟨k5, k6, kv, kn, -⟩ := K0.out _ _ _ _ _ hD
  have hld := hnod _ (hyD _ _ _ _ _ hD)
  have hmk := mkb4
  have hl := Cut_E hD.sys 40 (by omega) ⟨⟨#[107]⟩, hd, [p1, p2]⟩ ⟨pn, .nil, .nil, .nil⟩ v (by rw [(ptDo_quiet w b).run, e1]; simp)
  have hne2 : ((cutP 40 hd v).run (ptDo w b) m1).1 ≠ some none := by rw [(ptDo_quiet w b).run, e2]; simp
  have HD := Lib.hid hD
  have HY := Lib.hid (⟨hyD, hnod⟩ : _ ∧ _)
  have HE := Lib.hid (⟨e1, e2, hne2⟩ : _ ∧ _ ∧ _)
  have HC := Lib.hid (⟨hcm, hc1, hc2, hF.cnt⟩ : _ ∧ _ ∧ _ ∧ _)
  have HX := Lib.hid (⟨hnn, hF, hk1, hk2, hlen⟩ : _ ∧ _ ∧ _ ∧ _ ∧ _)
  have hi1 : (k : Int) ≤ (n : Int) := by omega
  have hi2 : (n : Int) ≤ 40 := by omega
  unfold Nd.v at hl
  simp only at hl
  show Calls Tryd.prog 19 #[.pointer (some ⟨w.heap.size, 0, none⟩), .pointer (some ⟨zy, 0, none⟩), .pointer (some ⟨zv, 0, none⟩), .pointer (some ⟨zn, 0, none⟩)] (w.alloc (portObj b)) _
  clear h hcm hch hlen hnd hhs hcs hy ly lv ln hD e1 e2 hF hc1 hc2 hne2 ea eac hnn hhn hcn c5 c6 cv cn hyD hnod h0 hw hhd hk ek hk1 hk2 hx0
  generalize hwp : w.alloc (portObj b) = wp at *
  go_enter Tryd.func19, Tryd.ntmps19
  go_wp2_with (first | ((with_reducible refine load_run ?_ (.tmp 15) 27 ?_ ?_ hld ?_); exact rfl; exact rfl; exact rfl) | fail)
  refine hl.mono ?_
  rintro e w1 hE
  obtain ⟨t1, G1, u, rfl, ⟨q, sl1, hq, hin1, rfl⟩, ha⟩ := hE.done (ptDo_quiet w b)
  rw [HE.out.1] at hq ha
  cases hq
  simp only at hin1 ha ⊢
  have hD1 := HD.out.aft ha
  clear k5 k6 kv kn hld
  obtain ⟨k5, k6, kv, kn, -⟩ := K0.out _ _ _ _ _ hD1
  have hld := HY.out.2 _ (HY.out.1 _ _ _ _ _ hD1)
  have hl2 := Cut_E hD1.sys 40 (by have := HC.out; omega) ⟨⟨#[107]⟩, hd, [p1, p2]⟩ ⟨pn, .nil, .nil, .nil⟩ v HE.out.2.2
  have HD1 := Lib.hid hD1
  have HI1 := Lib.hid hin1
  unfold Nd.v at hl2
  simp only at hl2
  clear hl hE ha hD1 hin1
  go_wp2_with (first | ((with_reducible refine load_run ?_ (.tmp 23) 27 ?_ ?_ hld ?_); exact rfl; exact rfl; exact rfl) | fail)
  refine hl2.mono ?_
  rintro e w3 hE
  obtain ⟨t3, G3, u, rfl, ⟨q, sl3, hq, hin3, rfl⟩, ha⟩ := hE.done (ptDo_quiet w b)
  rw [HE.out.2.1] at hq ha
  cases hq
  simp only at hin3 ha ⊢
  have hD3 := HD1.out.aft ha
  clear k5 k6 kv kn hld
  obtain ⟨k5, k6, kv, kn, -⟩ := K0.out _ _ _ _ _ hD3
  have hs1 := HI1.out.more fun x hx => ha.gro.1 x hx
  have hn1 := hs1.n
  have hn3 := hin3.n
  obtain ⟨hnn, hF, hk1, hk2, hlen⟩ := HX.out
  rw [ints_length, flat_length, List.length_drop, ← hnn] at hn1
  rw [ints_length] at hn3
  have hX0 : Hid (CutsX w0 b c r G w G3 m2 0 w3) := ⟨t3, G3, m2, hD3, fun x hx => hx, AskN.refl _⟩
  have HS1 := Lib.hid hs1
  obtain ⟨a1, nn1, cap1⟩ := sl1
  obtain ⟨a3, nn3, cap3⟩ := sl3
  simp only at hn1 hn3 ⊢
  have hn3' : nn3 = 0 := hn3
  subst hn3'
  have hq1 : (nn1 : Int) = 2 * ((n : Int) - (k : Int)) := by omega
  have hq2 : ((nn1 : Int) != 2 * ((n : Int) - (k : Int))) = false := by simpa using hq1
  have hq3 : (nn1 : Int) ≤ 80 := by omega
  have HQ := Lib.hid hq1
  clear hl2 hE ha hin3 hD3 hn3 hs1 hn1 hnn hF hk1 hk2 hlen hq1
  go_wp2_with fail
  go_loopw [10] (fun jv wr => ∃ j : Nat, jv = .int .i64 (j : Int) ∧ (k : Int) + (j : Int) ≤ (n : Int) ∧ Hid (CutsX w0 b c r G w G3 m2 j wr)) (fun jv _ => n - (intOf jv).toNat)
  case atStart => exact ⟨0, rfl, by omega, hX0⟩
  case round =>
    obtain ⟨j, rfl, hj, hX⟩ := hrel
    obtain ⟨t4, G4, m4, hD4, hg4, ha4⟩ := hX.out
    obtain ⟨hnn, hF, hk1, hk2, hlen⟩ := HX.out
    by_cases hin : k + j < n
    · obtain ⟨z, hz⟩ : ∃ z, l[k + j]? = some z := ⟨_, List.getElem?_eq_getElem (by omega)⟩
      have hj1 : (2 * (j : Int) < (nn1 : Int)) := by have := HQ.out; omega
      have hj2 : (k : Int) + (j : Int) < (n : Int) := by omega
      have hj4 : (2 * (j : Int) + 1 < (nn1 : Int)) := by have := HQ.out; omega
      have hj3 : (j : Int) ≤ 40 := by omega
      have hzl := (ha4.look z.1).trans (hF.ages z (List.mem_of_getElem? hz))
      have htk := takeA_go hzl
      obtain ⟨g1, o1, ea1, ca⟩ := hD4.sys.slcell (i := 2 * j) (HS1.out.more hg4) (x := .int .i64 z.1) (ints_get (flat_get (l.drop k) j z (by rw [List.getElem?_drop]; exact hz)).1)
      obtain ⟨g1', o1', ea1', cb⟩ := hD4.sys.slcell (i := 2 * j + 1) (HS1.out.more hg4) (x := .int .i64 z.2.2) (ints_get (flat_get (l.drop k) j z (by rw [List.getElem?_drop]; exact hz)).2)
      simp only at ea1 ea1'
      rw [ea1] at ea1'
      cases ea1'
      have hm4 := ha4.cnt
      have hl := Take_E hD4.sys (by have := HC.out; omega) z.1
      have HT4 := Lib.hid (⟨htk, hz⟩ : _ ∧ _)
      have HA4 := Lib.hid (⟨hg4, ha4, ea1⟩ : _ ∧ _ ∧ _)
      have HD4 := Lib.hid hD4
      subst ea1
      clear hnn hF hk1 hk2 hlen hz hin hX k5 k6 kv kn hzl htk hg4 ha4 hm4 hD4 cb
      go_wp2_with fail
      refine hl.mono ?_
      rintro e w5 hE
      obtain ⟨t5, G5, u, rfl, ⟨q, hin5, rfl⟩, ha5⟩ := hE.done (ptDo_quiet w b)
      rw [HT4.out.1] at hin5 ha5
      rw [HT4.out.1]
      simp only at hin5 ha5 ⊢
      obtain ⟨w6, hw6⟩ : ∃ W, W = w5.alloc (.cells ((⟨z.2.1, z.2.2⟩ : Ag).row q).toArray 42) := ⟨_, rfl⟩
      have hb6 : Below w5.heap.size w5 w6 := by rw [hw6]; exact (Below.refl _ _).alloc (Nat.le_refl _) _
      have s6 : SVar w6 w5.heap.size ((⟨z.2.1, z.2.2⟩ : Ag).row q) := by rw [hw6]; exact snew _ _ _
      have hD6 := (HD4.out.aft ha5).later hb6
      obtain ⟨k5, k6, kv, kn, kx⟩ := K0.out _ _ _ _ _ hD6
      obtain ⟨kx1, kx2⟩ := kx (k + j) z HT4.out.2
      have hg6 : ∀ x, x ∈ G3 → x ∈ G5 := fun x hx => ha5.gro.1 x (HA4.out.1 x hx)
      obtain ⟨g1', o1', ea1', cA⟩ := hD6.sys.slcell (i := 2 * j) (HS1.out.more hg6) (x := .int .i64 z.1) (ints_get (flat_get (l.drop k) j z (by rw [List.getElem?_drop]; exact HT4.out.2)).1)
      cases ea1'
      obtain ⟨g1', o1', ea1', cB⟩ := hD6.sys.slcell (i := 2 * j + 1) (HS1.out.more hg6) (x := .int .i64 z.2.2) (ints_get (flat_get (l.drop k) j z (by rw [List.getElem?_drop]; exact HT4.out.2)).2)
      cases ea1'
      have s0 := s6.cell (i := 0) rfl
      have s10 := s6.cell (i := 10) rfl
      have HN : Hid (∀ W, Below w6.heap.size w6 W → CutsX w0 b c r G w G3 m2 (j + 1) W) := fun W hW => ⟨t5, G5, m4.ask, hD6.later hW, hg6, (HA4.out.2.1.trans (AskN.ask m4)).le (by push_cast; omega)⟩
      have HW6 := Lib.hid hw6.symm
      unfold Ag.v
      simp only [Ag.row] at HW6
      simp only at s0 s10 ⊢
      clear hl hE ha5 hin5 hw6 hb6 s6 hD6 kx hg6 ca
      go_wp2_with (first | rw [HW6.out] | fail)
      go_quiet (fail)
      go_wp2_with fail
      exact ⟨⟨j + 1, rfl, by push_cast; omega, HN.out _ (below_drewN _ _)⟩, by simp only [intOf]; omega⟩
    · have hj1 : ¬ (2 * (j : Int) < (nn1 : Int)) := by have := HQ.out; omega
      have hj3 : (j : Int) ≤ 40 := by omega
      have hcnt := ha4.cnt
      have HE3 : Hid (Behind w0 b c r G w m l k wr) := ⟨G4, m4, hD4.but, hD4.sys.mem, hD4.gro, hF.asked ha4 (by have := HC.out; omega)⟩
      clear hnn hF hk1 hk2 hlen hX k5 k6 kv kn hin hD4 hg4 ha4 hcnt
      go_wp2_with fail
      go_ret
      exact ⟨_, rfl, rfl, HE3.out⟩
end
end Go.Proofs.YtbcpdkmbbgcfbaaDoor
