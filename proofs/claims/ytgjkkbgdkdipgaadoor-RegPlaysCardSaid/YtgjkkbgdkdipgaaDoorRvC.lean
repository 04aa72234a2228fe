/- The reference's Open, Close. Conditions: at most 64 clients and places; generations are small. -/
import Derived.Test.YtgjkkbgdkdipgaaDoorRvB
import Derived.BigRegion
import Derived.BigQuiet
namespace Go.Proofs.YtgjkkbgdkdipgaaDoor
open Go.RowKit Go.Op
set_option maxRecDepth 100000

theorem results_cell3 {fn : Func} {ts : Array Value} {w : World} {a b c : Tmp} {t : TypeId} {p : Addr} {v : Value} (x y : Value) (h : fn.results = #[.cell a t, .tmp b, .tmp c]) (ha : ts.getD a undef = .pointer (some p)) (hb : ts.getD b undef = x) (hc : ts.getD c undef = y) (hl : (loadVar t p).run Tryd.prog w = .ok v w) : (results fn ts).run Tryd.prog w = .ok (.tuple #[v, x, y]) w := by
  unfold results
  rw [h]
  simp [asAddr, ha, hb, hc, hl, -Array.getD_eq_getD_getElem?]
/-- Behind a clone of the places, a store, the result's store. -/
theorem snap_done {Q : Nat → Prop} {w w2 w4 : World} {x : Rs} {V : Int} {A : List Int} {B : List (Int × Int)} {cap' : Nat} (h : Two w w2 x V A.length B.length) (hx : RIs Q w x A B) (hb : Below w2.heap.size w2 w4) {g : Nat} (hg : g = w2.heap.size + 1) (hlt : g < w4.heap.size) (hc : ∀ (i : Nat) (y : Int × Int), B[i]? = some y → w4.cell? ⟨g, i * 2, none⟩ = some (.int .i64 y.1) ∧ w4.cell? ⟨g, i * 2 + 1, none⟩ = some (.int .i64 y.2)) :
    V3 w4 w.heap.size V (.slice x.sa A.length x.sc) (.slice x.pa B.length x.pc) ∧ V3 w4 (w.heap.size + 1) 0 (.slice none 0 0) (.slice none 0 0) ∧
    (∀ (i : Nat) (y : Int × Int), B[i]? = some y → (w4.setCell ⟨w.heap.size, 2, none⟩ (.slice (some ⟨g, 0, none⟩) B.length cap')).cell? ⟨g, i * 2, none⟩ = some (.int .i64 y.1) ∧ (w4.setCell ⟨w.heap.size, 2, none⟩ (.slice (some ⟨g, 0, none⟩) B.length cap')).cell? ⟨g, i * 2 + 1, none⟩ = some (.int .i64 y.2)) ∧
    ∀ w6 B', But g (w4.setCell ⟨w.heap.size, 2, none⟩ (.slice (some ⟨g, 0, none⟩) B.length cap')) w6 → (∀ (i : Nat) (y : Int × Int), B'[i]? = some y → w6.cell? ⟨g, i * 2, none⟩ = some (.int .i64 y.1) ∧ w6.cell? ⟨g, i * 2 + 1, none⟩ = some (.int .i64 y.2)) →
      V3 (put3 w6 (w.heap.size + 1) V (.slice x.sa A.length x.sc) (.slice (some ⟨g, 0, none⟩) B.length cap')) (w.heap.size + 1) V (.slice x.sa A.length x.sc) (.slice (some ⟨g, 0, none⟩) B.length cap') ∧ RNew Q w (put3 w6 (w.heap.size + 1) V (.slice x.sa A.length x.sc) (.slice (some ⟨g, 0, none⟩) B.length cap')) ⟨x.sa, x.sc, some ⟨g, 0, none⟩, cap'⟩ A B' := by
  have hs := h.sz
  have kx : V3 w4 w.heap.size V (.slice x.sa A.length x.sc) (.slice x.pa B.length x.pc) := h.x.same (hb.block _ (by omega))
  have kr : V3 w4 (w.heap.size + 1) 0 (.slice none 0 0) (.slice none 0 0) := h.r.same (hb.block _ (by omega))
  have b1 : But w.heap.size w4 (w4.setCell ⟨w.heap.size, 2, none⟩ (.slice (some ⟨g, 0, none⟩) B.length cap')) := (But.refl _ _).set _ _
  refine ⟨kx, kr, fun i y hy => ?_, fun w6 B' b2 hc6 => ?_⟩
  · obtain ⟨q1, q2⟩ := hc i y hy
    exact ⟨set_other q1 (by omega), set_other q2 (by omega)⟩
  generalize hw5 : w4.setCell ⟨w.heap.size, 2, none⟩ (.slice (some ⟨g, 0, none⟩) B.length cap') = w5 at *
  have s5 := b1.size
  have s6 := b2.size
  have r6 : V3 w6 (w.heap.size + 1) 0 (.slice none 0 0) (.slice none 0 0) := (kr.same (b1.block _ (by omega) (by omega))).same (b2.block _ (by omega) (by omega))
  have b3 := But.put3 w6 (w.heap.size + 1) V (.slice x.sa A.length x.sc) (.slice (some ⟨g, 0, none⟩) B.length cap')
  have hz := hb.size
  have hB : Below w.heap.size w (put3 w6 (w.heap.size + 1) V (.slice x.sa A.length x.sc) (.slice (some ⟨g, 0, none⟩) B.length cap')) :=
    ⟨b3.os.trans (b2.os.trans (b1.os.trans (hb.os.trans h.below.os))), b3.tape.trans (b2.tape.trans (b1.tape.trans (hb.tape.trans h.below.tape))), b3.output.trans (b2.output.trans (b1.output.trans (hb.output.trans h.below.output))), by have := b3.size; omega, fun z hz2 => by
      rw [b3.block z (by omega) (by omega), b2.block z (by omega) (by omega), b1.block z (by omega) (by omega), hb.block z (by omega), h.below.block z hz2]⟩
  refine ⟨r6.put _ _ _, ⟨?_, .inr ⟨g, rfl, .inr (by omega), by have := b3.size; omega, fun i y hy => ?_⟩⟩, hB⟩
  · exact hx.a.keep (fun g h _ => .inl h) hB.size fun g _ h2 => hB.block g h2
  · rw [World.cell?_of_block (w := w6) (a := ⟨g, i * 2, none⟩) (b3.block g (by omega) (by omega)), World.cell?_of_block (w := w6) (a := ⟨g, i * 2 + 1, none⟩) (b3.block g (by omega) (by omega))]
    exact hc6 i y hy
/-- A clone of places. -/
structure ClS (Q : Nat → Prop) (w w2 : World) (x : Rs) (V : Int) (A : List Int) (B : List (Int × Int)) (zz cap' : Nat) (w4 : World) : Prop where
  hz : w2.heap.size = zz
  run : ∀ ty, (Builtin.append_ #[42, 42] ty #[.slice (some ⟨zz, 0, none⟩) 0 0, .slice x.pa B.length x.pc]).run Tryd.prog (w2.alloc (.cells #[] 79)) = .ok (.slice (some ⟨zz + 1, 0, none⟩) B.length cap') w4
  fz : ∀ i, w4.frozen? ⟨zz + 1, i, none⟩ = false
  x2 : (w2.alloc (.cells #[] 79)).cell? ⟨w.heap.size, 2, none⟩ = some (.slice x.pa B.length x.pc)
  x4 : V3 w4 w.heap.size V (.slice x.sa A.length x.sc) (.slice x.pa B.length x.pc)
  r4 : V3 w4 (w.heap.size + 1) 0 (.slice none 0 0) (.slice none 0 0)
  c5 : ∀ (i : Nat) (y : Int × Int), B[i]? = some y → (w4.setCell ⟨w.heap.size, 2, none⟩ (.slice (some ⟨zz + 1, 0, none⟩) B.length cap')).cell? ⟨zz + 1, i * 2, none⟩ = some (.int .i64 y.1) ∧ (w4.setCell ⟨w.heap.size, 2, none⟩ (.slice (some ⟨zz + 1, 0, none⟩) B.length cap')).cell? ⟨zz + 1, i * 2 + 1, none⟩ = some (.int .i64 y.2)
  c4 : ∀ (i : Nat) (y : Int × Int), B[i]? = some y → w4.cell? ⟨zz + 1, i * 2, none⟩ = some (.int .i64 y.1) ∧ w4.cell? ⟨zz + 1, i * 2 + 1, none⟩ = some (.int .i64 y.2)
  done : ∀ w6 B', But (zz + 1) (w4.setCell ⟨w.heap.size, 2, none⟩ (.slice (some ⟨zz + 1, 0, none⟩) B.length cap')) w6 → (∀ (i : Nat) (y : Int × Int), B'[i]? = some y → w6.cell? ⟨zz + 1, i * 2, none⟩ = some (.int .i64 y.1) ∧ w6.cell? ⟨zz + 1, i * 2 + 1, none⟩ = some (.int .i64 y.2)) →
      V3 (put3 w6 (w.heap.size + 1) V (.slice x.sa A.length x.sc) (.slice (some ⟨zz + 1, 0, none⟩) B.length cap')) (w.heap.size + 1) V (.slice x.sa A.length x.sc) (.slice (some ⟨zz + 1, 0, none⟩) B.length cap') ∧ RNew Q w (put3 w6 (w.heap.size + 1) V (.slice x.sa A.length x.sc) (.slice (some ⟨zz + 1, 0, none⟩) B.length cap')) ⟨x.sa, x.sc, some ⟨zz + 1, 0, none⟩, cap'⟩ A B'
  ge : w.heap.size + 2 ≤ zz
  lt : zz + 1 < w4.heap.size
theorem clone_snaps {Q : Nat → Prop} {w w2 : World} {x : Rs} {V : Int} {A : List Int} {B : List (Int × Int)} (h : Two w w2 x V A.length B.length) (hx : RIs Q w x A B) (hB : B.length ≤ 64) (h0 : 0 < B.length) : ∃ zz cap' w4, ClS Q w w2 x V A B zz cap' w4 := by
  obtain ⟨g0, eg, -⟩ := (hx.later h.below).b.see (List.getElem?_eq_getElem h0)
  have hal := (Below.refl w2.heap.size w2).alloc (Nat.le_refl _) (.cells #[] 79)
  have hrow : ∀ (i : Nat) (y : Int × Int), B[i]? = some y → (w2.alloc (.cells #[] 79)).cell? ⟨g0, i * 2, none⟩ = some (.int .i64 y.1) ∧ (w2.alloc (.cells #[] 79)).cell? ⟨g0, i * 2 + 1, none⟩ = some (.int .i64 y.2) := fun i y hi => by
    obtain ⟨g1, e1, c⟩ := ((hx.later h.below).later hal).b.see hi
    rw [eg] at e1
    cases e1
    exact c
  obtain ⟨cap', w4, hrun, hb4, hlt4, hfz4, hc4⟩ := pairs_app (w2.alloc (.cells #[] 79)) w2.heap.size g0 x.pc B (by omega) (by omega) hrow
  have hsz : (w2.alloc (.cells #[] 79)).heap.size = w2.heap.size + 1 := by simp
  have hb24 : Below w2.heap.size w2 w4 := hal.trans (hb4.mono (by omega))
  rw [hsz] at hrun hlt4 hfz4 hc4
  obtain ⟨q1, q2, q3, q4⟩ := snap_done (cap' := cap') h hx hb24 (g := w2.heap.size + 1) rfl hlt4 hc4
  refine ⟨w2.heap.size, cap', w4, rfl, by rw [eg]; exact hrun, hfz4, ?_, q1, q2, q3, hc4, q4, h.sz, hlt4⟩
  rw [hal.cell (p := ⟨w.heap.size, 2, none⟩) (by have := h.sz; simp only; omega)]
  exact h.x.c2
theorem Two.over {w w2 w3 : World} {x : Rs} {V : Int} {n k : Nat} (h : Two w w2 x V n k) (hb : Below w2.heap.size w2 w3) : Two w w3 x V n k :=
  ⟨h.x.same (hb.block _ (by have := h.sz; omega)), h.r.same (hb.block _ (by have := h.sz; omega)), h.below.trans (hb.mono (by have := h.sz; omega)), Nat.le_trans h.sz hb.size⟩
/-- Open's store. -/
theorem open_store {w5 : World} {g : Nat} {B : List (Int × Int)} (hc : ∀ (i : Nat) (y : Int × Int), B[i]? = some y → w5.cell? ⟨g, i * 2, none⟩ = some (.int .i64 y.1) ∧ w5.cell? ⟨g, i * 2 + 1, none⟩ = some (.int .i64 y.2)) {k : Nat} {b : Int × Int} (hb : B[k]? = some b) (v : Int) :
    ∀ (i : Nat) (y : Int × Int), (B.set k (b.1, v))[i]? = some y → (w5.setCell ⟨g, k * 2 + 1, none⟩ (.int .i64 v)).cell? ⟨g, i * 2, none⟩ = some (.int .i64 y.1) ∧ (w5.setCell ⟨g, k * 2 + 1, none⟩ (.int .i64 v)).cell? ⟨g, i * 2 + 1, none⟩ = some (.int .i64 y.2) := fun i y hy => by
  by_cases e : k = i
  · subst e
    rw [List.getElem?_set_self (List.getElem?_eq_some_iff.1 hb).1] at hy
    cases hy
    obtain ⟨q1, q2⟩ := hc k b hb
    exact ⟨set_other q1 (by omega), set_same q2⟩
  · rw [List.getElem?_set_ne e] at hy
    obtain ⟨q1, q2⟩ := hc i y hy
    exact ⟨set_other q1 (by omega), set_other q2 (by omega)⟩
/-- Close's store. -/
theorem close_store {w5 : World} {g : Nat} {B : List (Int × Int)} (hc : ∀ (i : Nat) (y : Int × Int), B[i]? = some y → w5.cell? ⟨g, i * 2, none⟩ = some (.int .i64 y.1) ∧ w5.cell? ⟨g, i * 2 + 1, none⟩ = some (.int .i64 y.2)) {k : Nat} {b : Int × Int} (hb : B[k]? = some b) (u v : Int) :
    ∀ (i : Nat) (y : Int × Int), (B.set k (u, v))[i]? = some y → ((w5.setCell ⟨g, k * 2, none⟩ (.int .i64 u)).setCell ⟨g, k * 2 + 1, none⟩ (.int .i64 v)).cell? ⟨g, i * 2, none⟩ = some (.int .i64 y.1) ∧ ((w5.setCell ⟨g, k * 2, none⟩ (.int .i64 u)).setCell ⟨g, k * 2 + 1, none⟩ (.int .i64 v)).cell? ⟨g, i * 2 + 1, none⟩ = some (.int .i64 y.2) := fun i y hy => by
  by_cases e : k = i
  · subst e
    rw [List.getElem?_set_self (List.getElem?_eq_some_iff.1 hb).1] at hy
    cases hy
    obtain ⟨q1, q2⟩ := hc k b hb
    exact ⟨set_other (set_same q1) (by omega), set_same (set_other q2 (by omega))⟩
  · rw [List.getElem?_set_ne e] at hy
    obtain ⟨q1, q2⟩ := hc i y hy
    exact ⟨set_other (set_other q1 (by omega)) (by omega), set_other (set_other q2 (by omega)) (by omega)⟩
theorem V3.drew {w : World} {z : Nat} {V : Int} {x y : Value} (h : V3 w z V x y) : V3 w.drew z V x y := h.same rfl
theorem RNew.drew {Q : Nat → Prop} {w w' : World} {x : Rs} {A : List Int} {B : List (Int × Int)} (h : RNew Q w w' x A B) : RNew Q w w'.drew x A B := ⟨h.1.later (Below.refl _ _).drew, h.2.drew⟩
/-- What the reference's Open answers. -/
def OpenR (Q : Nat → Prop) (w : World) (x : Rs) (V : Int) (A : List Int) (B : List (Int × Int)) (v : Int) (e : Ending) (w' : World) : Prop :=
  if isV v = false then e = .returned (.tuple #[x.v V A.length B.length, .int .i64 0, .int .i64 10]) ∧ RNew Q w w' x A B else
  match openI 0 B with
  | none => e = .returned (.tuple #[x.v V A.length B.length, .int .i64 0, .int .i64 3]) ∧ RNew Q w w' x A B
  | some k => ∃ b x', B[k]? = some b ∧ e = .returned (.tuple #[x'.v V A.length B.length, .int .i64 (b.1 * 64 + (k : Int)), .int .i64 0]) ∧ RNew Q w w' x' A (B.set k (b.1, v))
theorem openI_cons (i : Nat) (b : Int × Int) (l : List (Int × Int)) : openI i (b :: l) = if b.2 < 0 then some i else openI (i + 1) l := rfl
set_option maxHeartbeats 2000000 in
theorem refopen_any (w : World) {Q : Nat → Prop} (x : Rs) (V : Int) (A : List Int) (B : List (Int × Int)) (hx : RIs Q w x A B) (hB : B.length ≤ 64) (hg : ∀ b ∈ B, 0 ≤ b.1 ∧ b.1 ≤ 100000) (v : Int) :
    Calls Tryd.prog 53 #[x.v V A.length B.length, .int .i64 v] w fun e w' => OpenR Q w x V A B v e w' := by
  obtain ⟨w2, hw2⟩ : ∃ W, W = (w.alloc (x.obj V A.length B.length)).alloc (.cells #[.int .i64 0, .slice none 0 0, .slice none 0 0] 44) := ⟨_, rfl⟩
  have h2 := two_new w x V A.length B.length
  rw [← hw2] at h2
  have HD := Lib.hid (two_done h2 hx)
  obtain ⟨c0, c1, c2, cz⟩ := h2.x
  obtain ⟨r0, r1, r2, rz⟩ := h2.r
  have HCl := Lib.hid (clone_snaps h2 hx hB)
  have HX := Lib.hid (hx.later h2.below).b
  have HG := Lib.hid hg
  unfold Rs.v
  unfold Rs.obj at hw2
  have HW := Lib.hid hw2.symm
  have hB2 : (B.length : Int) ≤ 64 := by omega
  have HP : Hid (∀ e w', OpenR Q w x V A B v e w' → OpenR Q w x V A B v e w') := fun e w' h => h
  by_cases hv : isV v = false
  · have hne := of_decide_eq_false hv
    have HO : Hid (∀ w', RNew Q w w' x A B → OpenR Q w x V A B v (.returned (.tuple #[x.v V A.length B.length, .int .i64 0, .int .i64 10])) w') := fun w' h => by
      unfold OpenR
      rw [if_pos hv]
      exact ⟨rfl, h⟩
    unfold Rs.v at HO
    generalize hP : OpenR Q w x V A B v = PP at *
    clear hx h2 hw2 hB hg hv HCl HX HG HP hP
    generalize A.length = na at *
    generalize B.length = nb at *
    by_cases h0 : v < 0
    · clear hne
      go_enter Tryd.func53, Tryd.ntmps53
      go_wp2_with (first | rw [HW.out] | fail)
      exact bodyPost_ret (results_cell3 (.int .i64 0) (.int .i64 10) Tryd.results53 rfl rfl rfl HD.out.1.loadVar) rfl (HO.out _ HD.out.2)
    · have h1 : 1073741824 < v := by omega
      have h0' : 0 ≤ v := by omega
      clear hne h0
      go_enter Tryd.func53, Tryd.ntmps53
      go_wp2_with (first | rw [HW.out] | fail)
      exact bodyPost_ret (results_cell3 (.int .i64 0) (.int .i64 10) Tryd.results53 rfl rfl rfl HD.out.1.loadVar) rfl (HO.out _ HD.out.2)
  · have hv1 : isV v = true := by simpa using hv
    obtain ⟨hv0, hv2⟩ := of_decide_eq_true hv1
    have HN : Hid (openI 0 B = none → ∀ w', RNew Q w w' x A B → OpenR Q w x V A B v (.returned (.tuple #[x.v V A.length B.length, .int .i64 0, .int .i64 3])) w') := fun e w' h => by
      unfold OpenR
      rw [if_neg hv, e]
      exact ⟨rfl, h⟩
    have HS : Hid (∀ k b x', openI 0 B = some k → B[k]? = some b → ∀ w', RNew Q w w' x' A (B.set k (b.1, v)) → OpenR Q w x V A B v (.returned (.tuple #[x'.v V A.length B.length, .int .i64 (b.1 * 64 + (k : Int)), .int .i64 0])) w') := fun k b x' e hb w' h => by
      unfold OpenR
      rw [if_neg hv, e]
      exact ⟨b, x', hb, rfl, h⟩
    unfold Rs.v at HN HS
    generalize hP : OpenR Q w x V A B v = PP at *
    have HH : Hid (openI 0 (B.drop 0) = openI 0 B) := rfl
    clear hx h2 hw2 hB hg hv hv1 HP hP
    have HNa : Hid (∃ n, n = A.length) := ⟨_, rfl⟩
    generalize hna : A.length = na at *
    generalize hn : B.length = n at *
    have HLn := Lib.hid (⟨hna, hn⟩ : _ ∧ _)
    clear hn hna HNa
    go_enter Tryd.func53, Tryd.ntmps53
    go_wp2_with (first | rw [HW.out] | fail)
    go_loopw [7] (fun iv wr => ∃ i : Nat, iv = .int .i64 (i : Int) ∧ i ≤ n ∧ wr = w2 ∧ Hid (openI i (B.drop i) = openI 0 B)) (fun iv _ => n - (intOf iv).toNat)
    case atStart => exact ⟨0, rfl, Nat.zero_le _, rfl, HH⟩
    case round =>
      obtain ⟨i, rfl, hi, rfl, hR⟩ := hrel
      clear HH
      by_cases hlt : i < n
      · have i1 : (i : Int) < (n : Int) := by omega
        obtain ⟨⟨gn, ve⟩, hb, hd⟩ := drop_atB (l := B) (i := i) (by rw [HLn.out.2]; exact hlt)
        obtain ⟨g0, eg, k0, k1⟩ := HX.out.see hb
        have hr := hR.out
        rw [hd, openI_cons] at hr
        have hat := at_42 g0 n x.pc i hlt
        simp only at hr k0 k1
        rw [eg] at c2
        by_cases h0 : ve < 0
        · rw [if_pos h0] at hr
          obtain ⟨zz, cap', w4, hcl⟩ := HCl.out (by omega)
          have hgn := HG.out (gn, ve) (List.mem_of_getElem? hb)
          simp only at hgn
          obtain ⟨d0, d1, d2, dz⟩ := hcl.x4
          obtain ⟨s0, s1, s2, sz⟩ := hcl.r4
          have hfz := hcl.fz
          have a2 := hcl.x2
          obtain ⟨q1, q2⟩ := hcl.c4 i _ hb
          simp only at q1 q2
          have hat2 := at_42 (zz + 1) n cap' i hlt
          rw [HLn.out.1] at d1
          rw [HLn.out.2, eg] at d2 a2
          have HC := Lib.hid hcl
          have HRun := Lib.hid hcl.run
          rw [HLn.out.2, eg] at HRun
          have HZ := Lib.hid hcl.hz
          have g1 : w.heap.size ≠ zz + 1 := by have := hcl.ge; omega
          have g2 : w.heap.size + 1 ≠ zz + 1 := by have := hcl.ge; omega
          have HE : Hid (∀ w', RNew Q w w' ⟨x.sa, x.sc, some ⟨zz + 1, 0, none⟩, cap'⟩ A (B.set i (gn, v)) → PP (.returned (.tuple #[.agg #[.int .i64 V, .slice x.sa na x.sc, .slice (some ⟨zz + 1, 0, none⟩) n cap'], .int .i64 (gn * 64 + (i : Int)), .int .i64 0])) w') := fun w' h => HS.out i (gn, ve) ⟨x.sa, x.sc, some ⟨zz + 1, 0, none⟩, cap'⟩ hr.symm hb w' h
          have HSt : Hid (∀ (i' : Nat) (y : Int × Int), (B.set i (gn, v))[i']? = some y → _ ∧ _) := open_store hcl.c5 hb v
          obtain ⟨hg0, hg1⟩ := hgn
          clear hb hd hr hR HCl HX HG HN HS HD hcl
          go_wp2_with (first | rw [HZ.out] | (at_builtin; refine append_run rfl (.tmp 29) (.tmp 31) 42 rfl _ _ _ _ rfl rfl (by first | exact HRun.out | (rw [HZ.out]; exact HRun.out)) ?_))
          go_region
          go_wp2_with fail
          obtain ⟨f1, f2⟩ := HC.out.done _ _ ((But.refl (zz + 1) _).set (i * 2 + 1) (.int .i64 v)) HSt.out
          rw [HLn.out.1, HLn.out.2] at f1 f2
          exact bodyPost_ret (results_cell3 (.int .i64 (gn * 64 + (i : Int))) (.int .i64 0) Tryd.results53 rfl rfl rfl (f1.drew.loadVar)) rfl (HE.out _ f2.drew)
        · rw [if_neg h0] at hr
          have HR := Lib.hid hr
          clear hr hb hd hR
          have h1 : 0 ≤ ve := by omega
          clear h0
          go_wp2_with fail
          go_roundw
          case rel => first | exact ⟨i + 1, by simp, by omega, rfl, HR⟩ | exact ⟨i + 1, by simp, by omega, trivial, HR⟩ | exact ⟨i + 1, by simp, by omega, HR⟩
          case measure => simp [intOf]; omega
      · obtain rfl : i = n := by omega
        have hr := hR.out
        rw [List.drop_eq_nil_of_le (by rw [HLn.out.2]; exact Nat.le_refl _)] at hr
        have HE := Lib.hid (HN.out hr.symm)
        clear hR hr HN HS HCl HX HG
        go_wp2_with fail
        have hd := HD.out
        exact bodyPost_ret (results_cell3 (.int .i64 0) (.int .i64 3) Tryd.results53 rfl rfl rfl hd.1.loadVar) rfl (HE.out _ hd.2)
/-- What the reference's Close answers. -/
def CloseR (Q : Nat → Prop) (w : World) (x : Rs) (V : Int) (A : List Int) (B : List (Int × Int)) (id : Int) (e : Ending) (w' : World) : Prop :=
  match findI B id with
  | none => e = .returned (.tuple #[x.v V A.length B.length, .int .i64 2]) ∧ RNew Q w w' x A B
  | some (k, b) => ∃ x', e = .returned (.tuple #[x'.v V A.length B.length, .int .i64 0]) ∧ RNew Q w w' x' A (B.set k (b.1 + 1, -1))
theorem Two.later {w w2 w3 : World} {x : Rs} {V : Int} {n k : Nat} (h : Two w w2 x V n k) (hb : Below w2.heap.size w2 w3) : V3 w3 w.heap.size V (.slice x.sa n x.sc) (.slice x.pa k x.pc) ∧ V3 w3 (w.heap.size + 1) 0 (.slice none 0 0) (.slice none 0 0) :=
  ⟨h.x.same (hb.block _ (by have := h.sz; omega)), h.r.same (hb.block _ (by have := h.sz; omega))⟩
set_option maxHeartbeats 2000000 in
theorem refclose_any (w : World) {Q : Nat → Prop} (x : Rs) (V : Int) (A : List Int) (B : List (Int × Int)) (hx : RIs Q w x A B) (hB : B.length ≤ 64) (hg : ∀ b ∈ B, 0 ≤ b.1 ∧ b.1 ≤ 100000) (id : Int) (hid : id < 9223372036854775808) :
    Calls Tryd.prog 55 #[x.v V A.length B.length, .int .i64 id] w fun e w' => CloseR Q w x V A B id e w' := by
  obtain ⟨w2, hw2⟩ : ∃ W, W = (w.alloc (x.obj V A.length B.length)).alloc (.cells #[.int .i64 0, .slice none 0 0, .slice none 0 0] 44) := ⟨_, rfl⟩
  have h2 := two_new w x V A.length B.length
  rw [← hw2] at h2
  have hf := reffind_any w2 x V A B (hx.later h2.below) hB id hid
  obtain ⟨c0, c1, c2, cz⟩ := h2.x
  have H2 := Lib.hid h2
  have HX := Lib.hid hx
  unfold Rs.v at hf ⊢
  unfold Rs.obj at hw2
  have HW := Lib.hid hw2.symm
  have HBl := Lib.hid hB
  have hB2 : (B.length : Int) ≤ 64 := by omega
  have HS : Hid (∀ e w', CloseR Q w x V A B id e w' = (match findI B id with
    | none => e = .returned (.tuple #[.agg #[.int .i64 V, .slice x.sa A.length x.sc, .slice x.pa B.length x.pc], .int .i64 2]) ∧ RNew Q w w' x A B
    | some (k, b) => ∃ x' : Rs, e = .returned (.tuple #[.agg #[.int .i64 V, .slice x'.sa A.length x'.sc, .slice x'.pa B.length x'.pc], .int .i64 0]) ∧ RNew Q w w' x' A (B.set k (b.1 + 1, -1)))) := fun e w' => rfl
  generalize hP : CloseR Q w x V A B id = PP at *
  clear hP
  unfold findN at hf
  cases hq : findI B id with
  | none =>
    rw [hq] at hf
    simp only at hf
    have HE : Hid (∀ w', RNew Q w w' x A B → PP (.returned (.tuple #[.agg #[.int .i64 V, .slice x.sa A.length x.sc, .slice x.pa B.length x.pc], .int .i64 2])) w') := fun w' h => by rw [HS.out, hq]; exact ⟨rfl, h⟩
    have HT : Hid (∀ w3, Below w2.heap.size w2 w3 → Two w w3 x V A.length B.length ∨ True) := fun _ _ => .inr trivial
    clear hx h2 hw2 hB hg HS hq HT
    generalize hna : A.length = na at *
    generalize hn : B.length = n at *
    have HLn := Lib.hid (⟨hna, hn⟩ : _ ∧ _)
    clear hn hna
    go_enter Tryd.func55, Tryd.ntmps55
    go_wp2_with (first | rw [HW.out] | fail)
    refine hf.mono ?_
    rintro e w3 ⟨rfl, hb3⟩
    obtain ⟨⟨d0, d1, d2, dz⟩, ⟨s0, s1, s2, sz⟩⟩ := H2.out.later hb3
    have HB3 := Lib.hid hb3
    clear hf hb3 c0 c1 c2 cz
    go_wp2_with fail
    have h2 := H2.out
    have hb := But.put3 w3 (w.heap.size + 1) V (.slice x.sa na x.sc) (.slice x.pa n x.pc)
    have hB : Below w.heap.size w (put3 w3 (w.heap.size + 1) V (.slice x.sa na x.sc) (.slice x.pa n x.pc)) :=
      ⟨hb.os.trans (HB3.out.os.trans h2.below.os), hb.tape.trans (HB3.out.tape.trans h2.below.tape), hb.output.trans (HB3.out.output.trans h2.below.output), Nat.le_trans h2.below.size (Nat.le_trans HB3.out.size hb.size), fun z hz => by
        rw [hb.block z (by have := HB3.out.size; have := h2.sz; omega) (by omega), HB3.out.block z (by have := h2.sz; omega)]; exact h2.below.block z hz⟩
    exact bodyPost_ret (results_cell2 (.int .i64 2) Tryd.results55 rfl rfl ((H2.out.later HB3.out).2.put V _ _).loadVar) rfl (HE.out _ ⟨HX.out.keep (fun g h _ => .inl h) hB.size fun g _ h => hB.block g h, hB⟩)
  | some kb =>
    obtain ⟨k, gn, ve⟩ := kb
    rw [hq] at hf
    simp only at hf
    obtain ⟨-, -, hb, -, -⟩ := findI_some hq
    have hlt := (List.getElem?_eq_some_iff.1 hb).1
    have HE : Hid (∀ x' w', RNew Q w w' x' A (B.set k (gn + 1, -1)) → PP (.returned (.tuple #[.agg #[.int .i64 V, .slice x'.sa A.length x'.sc, .slice x'.pa B.length x'.pc], .int .i64 0])) w') := fun x' w' h => by rw [HS.out, hq]; exact ⟨x', rfl, h⟩
    have hgn := hg (gn, ve) (List.mem_of_getElem? hb)
    simp only at hgn
    have HBk := Lib.hid hb
    clear hx h2 hw2 hB hg HS hq hb
    generalize hna : A.length = na at *
    generalize hn : B.length = n at *
    have HLn := Lib.hid (⟨hna, hn⟩ : _ ∧ _)
    clear hn hna
    go_enter Tryd.func55, Tryd.ntmps55
    go_wp2_with (first | rw [HW.out] | fail)
    refine hf.mono ?_
    rintro e w3 ⟨rfl, hb3⟩
    have hcl : ∃ zz cap' w4, ClS Q w w3 x V A B zz cap' w4 := by
      have h3 := H2.out.over hb3
      rw [← HLn.out.1, ← HLn.out.2] at h3
      exact clone_snaps h3 HX.out (by rw [HLn.out.2]; exact HBl.out) (by rw [HLn.out.2]; omega)
    obtain ⟨⟨e0, e1, e2, ez⟩, ⟨r0, r1, r2, rz⟩⟩ := H2.out.later hb3
    obtain ⟨zz, cap', w4, hcl⟩ := hcl
    obtain ⟨d0, d1, d2, dz⟩ := hcl.x4
    obtain ⟨s0, s1, s2, sz⟩ := hcl.r4
    have hfz := hcl.fz
    have a2 := hcl.x2
    obtain ⟨q1, q2⟩ := hcl.c4 k _ HBk.out
    obtain ⟨p1, p2⟩ := hcl.c5 k _ HBk.out
    simp only at q1 q2
    rw [HLn.out.1] at d1
    rw [HLn.out.2] at d2 a2
    have hat := at_42 (zz + 1) n cap' k hlt
    have HC := Lib.hid hcl
    have HRun := Lib.hid hcl.run
    rw [HLn.out.2] at HRun
    have HZ := Lib.hid hcl.hz
    have g1 : w.heap.size ≠ zz + 1 := by have := hcl.ge; omega
    have g2 : w.heap.size + 1 ≠ zz + 1 := by have := hcl.ge; omega
    have HSt : Hid (∀ (i' : Nat) (y : Int × Int), (B.set k (gn + 1, -1))[i']? = some y → _ ∧ _) := close_store hcl.c5 HBk.out (gn + 1) (-1)
    obtain ⟨hg0, hg1⟩ := hgn
    have hkn : (k : Int) < (n : Int) := by omega
    clear hf hb3 c0 c1 c2 cz hcl p1 p2
    go_wp2_with (first | rw [HZ.out] | (at_builtin; refine append_run rfl (.tmp 13) (.tmp 15) 42 rfl _ _ _ _ rfl rfl (by first | exact HRun.out | (rw [HZ.out]; exact HRun.out)) ?_))
    go_region
    go_wp2_with fail
    obtain ⟨f1, f2⟩ := HC.out.done _ _ (((But.refl (zz + 1) _).set (k * 2) (.int .i64 (gn + 1))).set (k * 2 + 1) (.int .i64 (-1))) HSt.out
    rw [HLn.out.1, HLn.out.2] at f1 f2
    exact bodyPost_ret (results_cell2 (.int .i64 0) Tryd.results55 rfl rfl (f1.drew.loadVar)) rfl (HE.out ⟨x.sa, x.sc, some ⟨zz + 1, 0, none⟩, cap'⟩ _ f2.drew)
end Go.Proofs.YtgjkkbgdkdipgaaDoor
