/- NodeFells's closure. Condition: the library's table stands. -/
import Derived.Test.YtbcpdkmbbgcfbaaDoorFg
import Derived.Test.YtbcpdkmbbgcfbaaDoorLg
namespace Go.Proofs.YtbcpdkmbbgcfbaaDoor
open Go.RowKit Go.Op
set_option maxRecDepth 100000

/-- Behind a closure that fells. -/
def Behind (w0 : World) (b c r : Nat) (G : List (Nat × List Value)) (w : World) (m : M) (l : List (Int × Rv × Int)) (n : Nat) (W : World) : Prop :=
  ∃ (G2 : List (Nat × List Value)) (m2 : M), ButN [b, c, r] w.heap.size w W ∧ HasE w0 b c r G2 W m2 ∧ Grow w G G2 ∧ Felled m m2 l n
section
variable {w0 w : World} {b c r : Nat} {G : List (Nat × List Value)} {zy zi : Nat} {m : M}
set_option maxHeartbeats 2000000 in
theorem fells1_any (h : HasE w0 b c r G w m) (hcm : m.count ≤ 1000) {y : Yd} {l : List (Int × Rv × Int)} {i : Nat} {x : Int × Rv × Int} (hx : l[i]? = some x) (hch : Ch m (topOf l) l) (hlen : l.length ≤ 40) (hnd : (flat l).Nodup)
    (hhs : y.hs.In G (ints (l.map Prod.fst))) (hy : SVar w zy (Yd.row b y)) (ly : zy < w.heap.size ∧ zy ∉ [b, c, r]) (ci : w.cell? ⟨zi, 0, none⟩ = some (.int .i64 (i : Int))) (li : zi < w.heap.size ∧ zi ∉ [b, c, r]) :
    Calls Tryd.prog 23 (#[.pointer (some ⟨w.heap.size, 0, none⟩)] ++ #[.pointer (some ⟨zy, 0, none⟩), .pointer (some ⟨zi, 0, none⟩)]) (w.alloc (portObj b)) fun e w' => ∃ u, e = .returned u ∧ u = .iface 4 (.bool true) ∧ Behind w0 b c r G w m l (i + 1) w' := by
  have hD := Dgo.start h (Z := [b, c, r]) ⟨by simp, by simp, by simp⟩
  obtain ⟨m1, m2, e1, e2, hF, hc1⟩ := fell2_go hch hlen hnd hx
  have hil := (List.getElem?_eq_some_iff.1 hx).1
  obtain ⟨g, o, ea, -⟩ := hD.sys.slcell (i := i) hhs (x := .int .i64 x.1) (ints_get (by rw [List.getElem?_map, hx]; rfl))
  obtain ⟨n, hn⟩ : ∃ n, n = l.length := ⟨_, rfl⟩
  have hhn := hhs.n
  rw [ints_length, List.length_map, ← hn] at hhn
  have c6 := hy.cell (i := 6) rfl
  rw [hhn, ea] at c6
  have K0 := Lib.hid (fun (t1 : Value) (G1 : List (Nat × List Value)) (w1 : World) (m1 : M) (s1 : Pt) (hd : Dgo w0 b c r w.heap.size [b, c, r] w t1 G G1 w1 m1 s1) => (⟨LocM.cellD ly.2 ly.1 hd c6, LocM.cellD li.2 li.1 hd ci, fun (j : Nat) (z : Int × Rv × Int) (hz : l[j]? = some z) => (by
    obtain ⟨g', o', ea', ce⟩ := hd.sys.slcell (i := j) (hhs.more fun x hx => hd.gro.1 x hx) (x := .int .i64 z.1) (ints_get (by rw [List.getElem?_map, hz]; rfl))
    rw [ea] at ea'
    cases ea'
    exact ce : w1.cell? ⟨g, o + j, none⟩ = some (.int .i64 z.1))⟩ : _ ∧ _ ∧ _))
  obtain ⟨k6, ki, kx⟩ := K0.out _ _ _ _ _ hD
  have kx1 := kx i x hx
  have hmk := mkb4
  have hl := Fell_E hD.sys 40 (by omega) x.1 (by rw [(ptDo_quiet w b).run, e1]; simp)
  have hne2 : ((fellP 40 x.1).run (ptDo w b) m1).1 ≠ some none := by rw [(ptDo_quiet w b).run, e2]; simp
  have HD := Lib.hid hD
  have HE := Lib.hid (⟨e1, e2, hne2⟩ : _ ∧ _ ∧ _)
  have HC := Lib.hid (⟨hcm, hc1, hF.cnt⟩ : _ ∧ _ ∧ _)
  have HX := Lib.hid (⟨hx, hn, hF⟩ : _ ∧ _ ∧ _)
  have hi1 : (i : Int) < (n : Int) := by omega
  have hi2 : (n : Int) ≤ 40 := by omega
  show Calls Tryd.prog 23 #[.pointer (some ⟨w.heap.size, 0, none⟩), .pointer (some ⟨zy, 0, none⟩), .pointer (some ⟨zi, 0, none⟩)] (w.alloc (portObj b)) _
  clear h hcm hch hlen hnd hhs hy ly ci li hD e1 e2 hF hc1 hne2 hil ea hn hhn c6 kx
  generalize hwp : w.alloc (portObj b) = wp at *
  go_enter Tryd.func23, Tryd.ntmps23
  go_wp2_with fail
  refine hl.mono ?_
  rintro e w1 hE
  obtain ⟨t1, G1, u, rfl, ⟨q, sl1, hq, hin1, rfl⟩, ha⟩ := hE.done (ptDo_quiet w b)
  rw [HE.out.1] at hq ha
  cases hq
  simp only at hin1 ha ⊢
  have hD1 := HD.out.aft ha
  clear k6 ki kx1
  obtain ⟨k6, ki, kx⟩ := K0.out _ _ _ _ _ hD1
  have kx1 := kx i x HX.out.1
  have hl2 := Fell_E hD1.sys 40 (by have := HC.out; omega) x.1 HE.out.2.2
  have HD1 := Lib.hid hD1
  have HI1 := Lib.hid hin1
  clear hl hE ha hD1 hin1 kx
  go_wp2_with fail
  refine hl2.mono ?_
  rintro e w2 hE
  obtain ⟨t2, G2, u, rfl, ⟨q, sl2, hq, hin2, rfl⟩, ha⟩ := hE.done (ptDo_quiet w b)
  rw [HE.out.2.1] at hq ha
  cases hq
  simp only at hin2 ha ⊢
  have hD2 := HD1.out.aft ha
  have hne3 : ((fellP 40 0).run (ptDo w b) m2).1 ≠ some none := by rw [(ptDo_quiet w b).run]; simp [fellP, Pr.go]
  have hl3 := Fell_E hD2.sys 40 (by have := HC.out; omega) 0 hne3
  have HD2 := Lib.hid hD2
  have HI2 := Lib.hid (⟨hin2, ha.gro⟩ : _ ∧ _)
  clear hl2 hE ha hD2 hin2 hne3 k6 ki kx1
  go_wp2_with fail
  refine hl3.mono ?_
  rintro e w3 hE
  obtain ⟨t3, G3, u, rfl, ⟨q, sl3, hq, hin3, rfl⟩, ha⟩ := hE.done (ptDo_quiet w b)
  have e3 : (fellP 40 0).go m2 = (some ([], 0), m2) := by simp [fellP, Pr.go]
  rw [e3] at hq ha
  cases hq
  simp only at hin3 ha ⊢
  have hD3 := HD2.out.aft ha
  have hn3 := hin3.n
  rw [ints_length] at hn3
  have hs1 := (HI1.out.more fun x hx => HI2.out.2.1 x hx).more fun x hx => ha.gro.1 x hx
  have hs2 := HI2.out.1.more fun x hx => ha.gro.1 x hx
  have hn1 := hs1.n
  have hn2 := hs2.n
  obtain ⟨hx, hn, hF⟩ := HX.out
  have hxl := (List.getElem?_eq_some_iff.1 hx).1
  rw [ints_length, flat_length, List.length_drop, ← hn] at hn1
  rw [ints_length] at hn2
  have K1 := Lib.hid (fun (W : World) (hW : Below w3.heap.size w3 W) => (K0.out _ _ _ _ _ (hD3.later hW)))
  obtain ⟨g1, o1, ea1, -⟩ := hD3.sys.slcell (i := 0) hs1 (x := .int .i64 x.1) (ints_get (by rw [drop_cons hx]; rfl))
  obtain ⟨g2, o2, ea2, -⟩ := hD3.sys.slcell (i := 0) hs2 (x := .int .i64 x.1) (ints_get rfl)
  have K2 := Lib.hid (fun (W : World) (hW : Below w3.heap.size w3 W) => (⟨fun (j : Nat) (z : Int) (hz : (flat (l.drop i))[j]? = some z) => (by
      obtain ⟨g', o', ea', ce⟩ := (hD3.later hW).sys.slcell (i := j) hs1 (x := .int .i64 z) (ints_get hz)
      rw [ea1] at ea'
      cases ea'
      exact ce : W.cell? ⟨g1, o1 + j, none⟩ = some (.int .i64 z)), fun (j : Nat) (z : Int) (hz : [x.1, x.2.2][j]? = some z) => (by
      obtain ⟨g', o', ea', ce⟩ := (hD3.later hW).sys.slcell (i := j) hs2 (x := .int .i64 z) (ints_get hz)
      rw [ea2] at ea'
      cases ea'
      exact ce : W.cell? ⟨g2, o2 + j, none⟩ = some (.int .i64 z))⟩ : _ ∧ _))
  have HB : Hid (∀ W, Below w3.heap.size w3 W → Behind w0 b c r G w m l (i + 1) W) := fun W hW => ⟨G3, m2, (hD3.later hW).but, (hD3.later hW).sys.mem, hD3.gro, hF⟩
  obtain ⟨a1, nn1, cap1⟩ := sl1
  obtain ⟨a2, nn2, cap2⟩ := sl2
  obtain ⟨a3, nn3, cap3⟩ := sl3
  simp only at hn1 hn2 hn3 ea1 ea2 ⊢
  have hn2' : nn2 = 2 := hn2
  have hn3' : nn3 = 0 := hn3
  subst ea1 ea2 hn2' hn3'
  have hq1 : (nn1 : Int) = 2 * ((n : Int) - (i : Int)) := by omega
  have hq2 : ((nn1 : Int) != 2 * ((n : Int) - (i : Int))) = false := by simpa using hq1
  have hq3 : (nn1 : Int) ≤ 80 := by omega
  have hq4 : (2 : Int) ≤ (nn1 : Int) := by omega
  have HQ := Lib.hid hq1
  obtain ⟨k6, ki, -⟩ := K1.out w3 (Below.refl _ _)
  clear hl3 hE ha hin3 hD3 hn3 hs1 hs2 hn1 hn2 hx hn hF hxl e3 hq1
  go_wp2_with fail
  go_loopw [11] (fun jv wr => ∃ j : Nat, jv = .int .i64 (j : Int) ∧ (i : Int) + (j : Int) ≤ (n : Int) ∧ Hid (Below w3.heap.size w3 wr)) (fun jv _ => n - (intOf jv).toNat)
  case atStart => exact ⟨0, rfl, by omega, Below.refl _ _⟩
  case round =>
    obtain ⟨j, rfl, hj, hX⟩ := hrel
    obtain ⟨hx, hn, hF⟩ := HX.out
    by_cases hin : i + j < n
    · obtain ⟨z, hz⟩ : ∃ z, l[i + j]? = some z := ⟨_, List.getElem?_eq_getElem (by omega)⟩
      have hj1 : (2 * (j : Int) < (nn1 : Int)) := by have := HQ.out; omega
      have hj2 : (i : Int) + (j : Int) < (n : Int) := by omega
      have hj3 : (j : Int) ≤ 40 := by omega
      have ca := (K2.out wr hX.out).1 (2 * j) z.1 (flat_get (l.drop i) j z (by rw [List.getElem?_drop]; exact hz)).1
      obtain ⟨r6, ri, rx⟩ := K1.out wr hX.out
      have cb := rx (i + j) z hz
      have HN : Hid (∀ W, Below wr.heap.size wr W → Below w3.heap.size w3 W) := fun W hW => hX.out.trans (hW.mono hX.out.size)
      clear hx hn hF rx hX k6 ki hz hin
      go_wp2_with fail
      go_quiet (fail)
      go_wp2_with fail
      exact ⟨⟨j + 1, rfl, by push_cast; omega, HN.out _ (below_drewN _ _)⟩, by simp only [intOf]; omega⟩
    · have hj1 : ¬ (2 * (j : Int) < (nn1 : Int)) := by have := HQ.out; omega
      have hj3 : (j : Int) ≤ 40 := by omega
      have k2 := K2.out wr hX.out
      have ca := k2.1 0 x.1 (by rw [drop_cons hx]; rfl)
      have cb := k2.1 1 x.2.2 (by rw [drop_cons hx]; rfl)
      have cc := k2.2 0 x.1 rfl
      have cd := k2.2 1 x.2.2 rfl
      have HE : Hid (∀ W, Below wr.heap.size wr W → Behind w0 b c r G w m l (i + 1) W) := fun W hW => HB.out W (hX.out.trans (hW.mono hX.out.size))
      rw [Nat.add_zero] at ca cc
      clear hx hn hF hX k6 ki hin k2
      go_wp2_with fail
      go_quiet (fail)
      go_wp2
      go_ret
      exact ⟨_, rfl, rfl, HE.out _ (below_drewN _ _)⟩
end
end Go.Proofs.YtbcpdkmbbgcfbaaDoor
