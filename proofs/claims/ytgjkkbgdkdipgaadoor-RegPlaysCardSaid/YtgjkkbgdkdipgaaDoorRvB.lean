/- The reference's register: its variable, New, Slot. Conditions: at most 64 clients and places. -/
import Derived.Test.YtgjkkbgdkdipgaaDoorRvA
namespace Go.Proofs.YtgjkkbgdkdipgaaDoor
open Go.RowKit Go.Op
set_option maxRecDepth 100000

/-- A variable that holds a reference's register. -/
structure V3 (w : World) (z : Nat) (V : Int) (x y : Value) : Prop where
  c0 : w.cell? ⟨z, 0, none⟩ = some (.int .i64 V)
  c1 : w.cell? ⟨z, 1, none⟩ = some x
  c2 : w.cell? ⟨z, 2, none⟩ = some y
  fz : ∀ i, w.frozen? ⟨z, i, none⟩ = false
def put3 (w : World) (z : Nat) (V : Int) (x y : Value) : World := ((w.setCell ⟨z, 0, none⟩ (.int .i64 V)).setCell ⟨z, 1, none⟩ x).setCell ⟨z, 2, none⟩ y
theorem size44 : (Tryd.prog.info? 44).map (·.size) = some 3 := by kernel_rfl
section
variable {w w' : World} {z : Nat} {V : Int} {x y : Value}
theorem V3.same (h : V3 w z V x y) (hk : w'.heap[z]? = w.heap[z]?) : V3 w' z V x y :=
  have k : ∀ i, w'.cell? ⟨z, i, none⟩ = w.cell? ⟨z, i, none⟩ := fun i => World.cell?_of_block (w := w) hk
  ⟨(k 0).trans h.c0, (k 1).trans h.c1, (k 2).trans h.c2, fun i => by rw [World.frozen?_of_block (w := w) (a := ⟨z, i, none⟩) hk]; exact h.fz i⟩
theorem V3.new (w : World) (V : Int) (x y : Value) : V3 (w.alloc (.cells #[.int .i64 V, x, y] 44)) w.heap.size V x y :=
  ⟨by simp [go_sem], by simp [go_sem], by simp [go_sem], fun i => World.frozen?_alloc_at _ 44 _ i rfl⟩
theorem V3.set1 (h : V3 w z V x y) (u : Value) : V3 (w.setCell ⟨z, 1, none⟩ u) z V u y :=
  ⟨set_other h.c0 (by omega), set_same h.c1, set_other h.c2 (by omega), fun i => by rw [World.frozen?_setCell]; exact h.fz i⟩
theorem V3.set2 (h : V3 w z V x y) (u : Value) : V3 (w.setCell ⟨z, 2, none⟩ u) z V x u :=
  ⟨set_other h.c0 (by omega), set_other h.c1 (by omega), set_same h.c2, fun i => by rw [World.frozen?_setCell]; exact h.fz i⟩
theorem V3.set0 (h : V3 w z V x y) (n : Int) : V3 (w.setCell ⟨z, 0, none⟩ (.int .i64 n)) z n x y :=
  ⟨set_same h.c0, set_other h.c1 (by omega), set_other h.c2 (by omega), fun i => by rw [World.frozen?_setCell]; exact h.fz i⟩
theorem V3.put (h : V3 w z V x y) (n : Int) (u v : Value) : V3 (put3 w z n u v) z n u v := ((h.set0 n).set1 u).set2 v
theorem But.put3 (w : World) (z : Nat) (V : Int) (x y : Value) : But z w (put3 w z V x y) := (((But.refl _ _).set _ _).set _ _).set _ _
theorem V3.range (h : V3 w z V x y) : w.rangeAt z 0 [.int .i64 V, x, y] := fun j v hj => by
  match j, hj with
  | 0, hj => simp at hj; subst hj; exact h.c0
  | 1, hj => simp at hj; subst hj; exact h.c1
  | 2, hj => simp at hj; subst hj; exact h.c2
theorem V3.loadVar (h : V3 w z V x y) : (loadVar 44 ⟨z, 0, none⟩).run Tryd.prog w = .ok (.agg #[.int .i64 V, x, y]) w :=
  run_loadVar_mid w z 0 44 _ _ h.range Tryd.underlying44 rfl size44
theorem V3.load (h : V3 w z V x y) : (Instr.loadAt 44 (.pointer (some ⟨z, 0, none⟩))).run Tryd.prog w = .ok (.agg #[.int .i64 V, x, y]) w :=
  run_loadAt_mid w z 0 44 _ _ h.range Tryd.underlying44 rfl size44
end
theorem ints_app (w : World) (q : Nat) (g cap : Nat) (l : List Int) (hl : l.length ≤ 1000000) (h0 : 0 < l.length) (hc : ∀ (i : Nat) (x : Int), l[i]? = some x → w.cell? ⟨g, i, none⟩ = some (.int .i64 x)) :
    ∃ cap' w', (∀ ty, (Builtin.append_ #[31, 31] ty #[.slice (some ⟨q, 0, none⟩) 0 0, .slice (some ⟨g, 0, none⟩) l.length cap]).run Tryd.prog w = .ok (.slice (some ⟨w.heap.size, 0, none⟩) l.length cap') w') ∧ Below w.heap.size w w' ∧ w.heap.size < w'.heap.size ∧ (∀ i, w'.frozen? ⟨w.heap.size, i, none⟩ = false) ∧ ∀ (i : Nat) (x : Int), l[i]? = some x → w'.cell? ⟨w.heap.size, i, none⟩ = some (.int .i64 x) := by
  obtain ⟨i0, hi, hz0, hz1, hz2⟩ := info_parts info3
  have hrun := fun ty => run_append_grow (P := Tryd.prog) w 31 ty 3 i0 _ Tryd.underlying31 hi hz0 ⟨q, 0, none⟩ 0 0 [] (by simp) (fun j u hu => (by simp at hu)) ⟨g, 0, none⟩ l.length cap (numRow l) (by simp [numRow, hz1]) (fun j u hu => by
    rw [add_off, Nat.zero_add]
    simp only [numRow, List.getElem?_map] at hu
    cases hx : l[j]? with
    | none => rw [hx] at hu; simp at hu
    | some x => rw [hx] at hu; simp at hu; rw [hc j x hx, hu]) (by omega) (by omega) (growslice_fits (by omega) (by rw [hz2]; omega))
  simp only [Nat.zero_add] at hrun
  refine ⟨_, _, hrun, (Below.refl w.heap.size w).drew.alloc (Nat.le_refl _) _, by simp, fun i => ?_, fun i x hx => ?_⟩
  · exact World.frozen?_alloc_at _ 3 _ i rfl
  · have hlt := (List.getElem?_eq_some_iff.1 hx).1
    rw [show w.heap.size = w.drew.heap.size from rfl, World.cell?_alloc_new]
    rw [Array.getElem?_append_left (by simp [numRow]; omega)]
    simp [numRow, hx]
def pairRow : List (Int × Int) → List Value
  | [] => []
  | b :: l => .int .i64 b.1 :: .int .i64 b.2 :: pairRow l
theorem pairRow_len : ∀ l : List (Int × Int), (pairRow l).length = l.length * 2
  | [] => rfl
  | b :: l => by simp [pairRow, pairRow_len l]; omega
theorem pairRow_at : ∀ (l : List (Int × Int)) (i : Nat) (x : Int × Int), l[i]? = some x → (pairRow l)[i * 2]? = some (.int .i64 x.1) ∧ (pairRow l)[i * 2 + 1]? = some (.int .i64 x.2)
  | b :: l, 0, x, h => by simp at h; subst h; exact ⟨rfl, rfl⟩
  | b :: l, i + 1, x, h => by
    have := pairRow_at l i x (by simpa using h)
    rw [show (i + 1) * 2 = i * 2 + 1 + 1 by omega]
    simpa [pairRow] using this
theorem pairRow_of (l : List (Int × Int)) (j : Nat) (u : Value) (h : (pairRow l)[j]? = some u) : ∃ i x, l[i]? = some x ∧ ((j = i * 2 ∧ u = .int .i64 x.1) ∨ (j = i * 2 + 1 ∧ u = .int .i64 x.2)) := by
  have hlt := (List.getElem?_eq_some_iff.1 h).1
  rw [pairRow_len] at hlt
  have hi : l[j / 2]? = some (l[j / 2]'(by omega)) := List.getElem?_eq_getElem _
  obtain ⟨h1, h2⟩ := pairRow_at l (j / 2) _ hi
  refine ⟨j / 2, _, hi, ?_⟩
  rcases Nat.mod_two_eq_zero_or_one j with e | e
  · rw [show j / 2 * 2 = j by omega, h] at h1
    cases h1
    exact .inl ⟨by omega, rfl⟩
  · rw [show j / 2 * 2 + 1 = j by omega, h] at h2
    cases h2
    exact .inr ⟨by omega, rfl⟩
theorem pairRow_snoc (l : List (Int × Int)) (b : Int × Int) : pairRow (l ++ [b]) = pairRow l ++ [.int .i64 b.1, .int .i64 b.2] := by
  induction l with
  | nil => rfl
  | cons a l ih => simp [pairRow, ih]
theorem pair_one (l : List (Int × Int)) : ∀ u ∈ pairRow l, u.oneCell' = true := by
  intro u hu
  obtain ⟨j, hj, e⟩ := List.mem_iff_getElem.1 hu
  obtain ⟨i, x, -, h⟩ := pairRow_of l j u (by rw [← e]; exact List.getElem?_eq_getElem hj)
  rcases h with ⟨-, rfl⟩ | ⟨-, rfl⟩ <;> rfl
theorem info79 : (Tryd.prog.info? 79).map (fun i => (i.zero, i.size, i.bytes)) = some (some (.agg #[.int .i64 0, .int .i64 0]), 2, 16) := by kernel_rfl
theorem pairs_app (w : World) (q : Nat) (g cap : Nat) (l : List (Int × Int)) (hl : l.length ≤ 1000000) (h0 : 0 < l.length) (hc : ∀ (i : Nat) (x : Int × Int), l[i]? = some x → w.cell? ⟨g, i * 2, none⟩ = some (.int .i64 x.1) ∧ w.cell? ⟨g, i * 2 + 1, none⟩ = some (.int .i64 x.2)) :
    ∃ cap' w', (∀ ty, (Builtin.append_ #[42, 42] ty #[.slice (some ⟨q, 0, none⟩) 0 0, .slice (some ⟨g, 0, none⟩) l.length cap]).run Tryd.prog w = .ok (.slice (some ⟨w.heap.size, 0, none⟩) l.length cap') w') ∧ Below w.heap.size w w' ∧ w.heap.size < w'.heap.size ∧ (∀ i, w'.frozen? ⟨w.heap.size, i, none⟩ = false) ∧ ∀ (i : Nat) (x : Int × Int), l[i]? = some x → w'.cell? ⟨w.heap.size, i * 2, none⟩ = some (.int .i64 x.1) ∧ w'.cell? ⟨w.heap.size, i * 2 + 1, none⟩ = some (.int .i64 x.2) := by
  obtain ⟨i0, hi, hz0, hz1, hz2⟩ := info_parts info79
  have hrun := fun ty => run_append_grow (P := Tryd.prog) w 42 ty 79 i0 _ Tryd.underlying42 hi hz0 ⟨q, 0, none⟩ 0 0 [] (by simp) (fun j u hu => (by simp at hu)) ⟨g, 0, none⟩ l.length cap (pairRow l) (by rw [pairRow_len, hz1]) (fun j u hu => by
    rw [add_off, Nat.zero_add]
    obtain ⟨i, x, hx, h⟩ := pairRow_of l j u hu
    obtain ⟨c1, c2⟩ := hc i x hx
    rcases h with ⟨rfl, rfl⟩ | ⟨rfl, rfl⟩
    · exact c1
    · exact c2) (by omega) (by omega) (growslice_fits (by omega) (by rw [hz2]; omega))
  simp only [Nat.zero_add] at hrun
  refine ⟨_, _, hrun, (Below.refl w.heap.size w).drew.alloc (Nat.le_refl _) _, by simp, fun i => ?_, fun i x hx => ?_⟩
  · exact World.frozen?_alloc_at _ 79 _ i rfl
  · have hlt := (List.getElem?_eq_some_iff.1 hx).1
    obtain ⟨p1, p2⟩ := pairRow_at l i x hx
    rw [show w.heap.size = w.drew.heap.size from rfl]
    refine ⟨?_, ?_⟩
    · rw [World.cell?_alloc_new, Array.getElem?_append_left (by simp [pairRow_len]; omega)]
      simpa using p1
    · rw [World.cell?_alloc_new, Array.getElem?_append_left (by simp [pairRow_len]; omega)]
      simpa using p2
/-- Two variables ahead of a clone: the parameter's and the result's. -/
structure Two (w w2 : World) (x : Rs) (V : Int) (n k : Nat) : Prop where
  x : V3 w2 w.heap.size V (.slice x.sa n x.sc) (.slice x.pa k x.pc)
  r : V3 w2 (w.heap.size + 1) 0 (.slice none 0 0) (.slice none 0 0)
  below : Below w.heap.size w w2
  sz : w.heap.size + 2 ≤ w2.heap.size
theorem two_new (w : World) (x : Rs) (V : Int) (n k : Nat) : Two w ((w.alloc (x.obj V n k)).alloc (.cells #[.int .i64 0, .slice none 0 0, .slice none 0 0] 44)) x V n k := by
  have hz : (w.alloc (x.obj V n k)).heap.size = w.heap.size + 1 := by simp
  have b2 := (Below.refl (w.alloc (x.obj V n k)).heap.size (w.alloc (x.obj V n k))).alloc (Nat.le_refl _) (.cells #[.int .i64 0, .slice none 0 0, .slice none 0 0] 44)
  refine ⟨(V3.new w V _ _).same (b2.block _ (by omega)), ?_, ((Below.refl _ _).alloc (Nat.le_refl _) _).alloc (by simp) _, by simp⟩
  have := V3.new (w.alloc (x.obj V n k)) 0 (.slice none 0 0) (.slice none 0 0)
  rw [hz] at this
  exact this
/-- What a call makes of a register. -/
def RNew (Q : Nat → Prop) (w w' : World) (x : Rs) (A : List Int) (B : List (Int × Int)) : Prop := RIs (fun g => Q g ∨ w.heap.size ≤ g) w' x A B ∧ Below w.heap.size w w'
theorem isC_len {S S' : List Int} (h : S.length = S'.length) (k : Int) : isC S k = isC S' k := by unfold isC; rw [h]
/-- Behind the result's store. -/
theorem two_done {Q : Nat → Prop} {w w2 : World} {x : Rs} {V : Int} {A : List Int} {B : List (Int × Int)} (h : Two w w2 x V A.length B.length) (hx : RIs Q w x A B) : V3 (put3 w2 (w.heap.size + 1) V (.slice x.sa A.length x.sc) (.slice x.pa B.length x.pc)) (w.heap.size + 1) V (.slice x.sa A.length x.sc) (.slice x.pa B.length x.pc) ∧ RNew Q w (put3 w2 (w.heap.size + 1) V (.slice x.sa A.length x.sc) (.slice x.pa B.length x.pc)) x A B := by
  have hb := But.put3 w2 (w.heap.size + 1) V (.slice x.sa A.length x.sc) (.slice x.pa B.length x.pc)
  have hB : Below w.heap.size w (put3 w2 (w.heap.size + 1) V (.slice x.sa A.length x.sc) (.slice x.pa B.length x.pc)) :=
    ⟨hb.os.trans h.below.os, hb.tape.trans h.below.tape, hb.output.trans h.below.output, Nat.le_trans h.below.size hb.size, fun z hz => (hb.block z (by have := h.sz; omega) (by omega)).trans (h.below.block z hz)⟩
  exact ⟨h.r.put _ _ _, hx.keep (fun g h _ => .inl h) hB.size fun g _ h2 => hB.block g h2, hB⟩
set_option maxHeartbeats 1000000 in
theorem refslot_no (w : World) {Q : Nat → Prop} (x : Rs) (V : Int) (A : List Int) (B : List (Int × Int)) (hx : RIs Q w x A B) (hA : A.length ≤ 64) (k n : Int) (hk : isC A k = false) :
    Calls Tryd.prog 51 #[x.v V A.length B.length, .int .i64 k, .int .i64 n] w fun e w' => e = .returned (.tuple #[x.v V A.length B.length, .int .i64 10]) ∧ RNew Q w w' x A B := by
  obtain ⟨w2, hw2⟩ : ∃ W, W = (w.alloc (x.obj V A.length B.length)).alloc (.cells #[.int .i64 0, .slice none 0 0, .slice none 0 0] 44) := ⟨_, rfl⟩
  have h2 := two_new w x V A.length B.length
  rw [← hw2] at h2
  have HD := Lib.hid (two_done h2 hx)
  obtain ⟨c0, c1, c2, cz⟩ := h2.x
  obtain ⟨r0, r1, r2, rz⟩ := h2.r
  have hne := of_decide_eq_false hk
  unfold Rs.v
  unfold Rs.obj at hw2
  have HW := Lib.hid hw2.symm
  have hA2 : (A.length : Int) ≤ 64 := by omega
  clear hx h2 hw2 hA hk
  generalize A.length = na at *
  generalize B.length = nb at *
  by_cases h0 : k < 0
  · clear hne
    go_enter Tryd.func51, Tryd.ntmps51
    go_wp2_with (first | rw [HW.out] | fail)
    exact bodyPost_ret (results_cell2 (.int .i64 10) Tryd.results51 rfl rfl (HD.out.1.loadVar)) rfl ⟨rfl, HD.out.2⟩
  · have h1 : (na : Int) ≤ k := by omega
    have h0' : 0 ≤ k := by omega
    clear hne h0
    go_enter Tryd.func51, Tryd.ntmps51
    go_wp2_with (first | rw [HW.out] | fail)
    exact bodyPost_ret (results_cell2 (.int .i64 10) Tryd.results51 rfl rfl (HD.out.1.loadVar)) rfl ⟨rfl, HD.out.2⟩
/-- Behind a clone of the slots, a store, the result's store. -/
theorem slot_done {Q : Nat → Prop} {w w2 w4 : World} {x : Rs} {V : Int} {A : List Int} {B : List (Int × Int)} {cap' : Nat} (h : Two w w2 x V A.length B.length) (hx : RIs Q w x A B) (hb : Below w2.heap.size w2 w4) {g : Nat} (hg : g = w2.heap.size + 1) (hlt : g < w4.heap.size) (hc : ∀ (i : Nat) (y : Int), A[i]? = some y → w4.cell? ⟨g, i, none⟩ = some (.int .i64 y)) (j : Nat) (hj : j < A.length) (n : Int) :
    V3 w4 w.heap.size V (.slice x.sa A.length x.sc) (.slice x.pa B.length x.pc) ∧ V3 w4 (w.heap.size + 1) 0 (.slice none 0 0) (.slice none 0 0) ∧
    ∀ W, W = put3 ((w4.setCell ⟨w.heap.size, 1, none⟩ (.slice (some ⟨g, 0, none⟩) A.length cap')).setCell ⟨g, j, none⟩ (.int .i64 n)) (w.heap.size + 1) V (.slice (some ⟨g, 0, none⟩) A.length cap') (.slice x.pa B.length x.pc) →
      V3 W (w.heap.size + 1) V (.slice (some ⟨g, 0, none⟩) A.length cap') (.slice x.pa B.length x.pc) ∧ RNew Q w W ⟨some ⟨g, 0, none⟩, cap', x.pa, x.pc⟩ (A.set j n) B := by
  have hs := h.sz
  have kx : V3 w4 w.heap.size V (.slice x.sa A.length x.sc) (.slice x.pa B.length x.pc) := h.x.same (hb.block _ (by omega))
  have kr : V3 w4 (w.heap.size + 1) 0 (.slice none 0 0) (.slice none 0 0) := h.r.same (hb.block _ (by omega))
  refine ⟨kx, kr, ?_⟩
  rintro W rfl
  have b1 : But w.heap.size w4 (w4.setCell ⟨w.heap.size, 1, none⟩ (.slice (some ⟨g, 0, none⟩) A.length cap')) := (But.refl _ _).set _ _
  generalize hw5 : w4.setCell ⟨w.heap.size, 1, none⟩ (.slice (some ⟨g, 0, none⟩) A.length cap') = w5 at *
  have hc5 : ∀ (i : Nat) (y : Int), A[i]? = some y → w5.cell? ⟨g, i, none⟩ = some (.int .i64 y) := fun i y hy => by rw [World.cell?_of_block (w := w4) (a := ⟨g, i, none⟩) (b1.block g hlt (by omega))]; exact hc i y hy
  have b2 : But g w5 (w5.setCell ⟨g, j, none⟩ (.int .i64 n)) := (But.refl _ _).set _ _
  have hc6 : ∀ (i : Nat) (y : Int), (A.set j n)[i]? = some y → (w5.setCell ⟨g, j, none⟩ (.int .i64 n)).cell? ⟨g, i, none⟩ = some (.int .i64 y) := fun i y hy => by
    rw [List.getElem?_set] at hy
    split at hy
    · rename_i e
      subst e
      cases hy
      exact set_same (hc5 j _ (List.getElem?_eq_getElem hj))
    · rename_i e
      exact set_other (hc5 i y hy) (.inr e)
  generalize hw6 : w5.setCell ⟨g, j, none⟩ (.int .i64 n) = w6 at *
  have s5 := b1.size
  have s6 := b2.size
  have r6 : V3 w6 (w.heap.size + 1) 0 (.slice none 0 0) (.slice none 0 0) := (kr.same (b1.block _ (by omega) (by omega))).same (b2.block _ (by omega) (by omega))
  have b3 := But.put3 w6 (w.heap.size + 1) V (.slice (some ⟨g, 0, none⟩) A.length cap') (.slice x.pa B.length x.pc)
  have hz := hb.size
  have hB : Below w.heap.size w (put3 w6 (w.heap.size + 1) V (.slice (some ⟨g, 0, none⟩) A.length cap') (.slice x.pa B.length x.pc)) :=
    ⟨b3.os.trans (b2.os.trans (b1.os.trans (hb.os.trans h.below.os))), b3.tape.trans (b2.tape.trans (b1.tape.trans (hb.tape.trans h.below.tape))), b3.output.trans (b2.output.trans (b1.output.trans (hb.output.trans h.below.output))), by have := b3.size; omega, fun z hz2 => by
      rw [b3.block z (by omega) (by omega), b2.block z (by omega) (by omega), b1.block z (by omega) (by omega), hb.block z (by omega), h.below.block z hz2]⟩
  refine ⟨r6.put _ _ _, ⟨.inr ⟨g, rfl, .inr (by omega), by have := b3.size; omega, fun i y hy => ?_⟩, ?_⟩, hB⟩
  · rw [World.cell?_of_block (w := w6) (a := ⟨g, i, none⟩) (b3.block g (by omega) (by omega))]
    exact hc6 i y hy
  · exact hx.b.keep (fun g h _ => .inl h) hB.size fun g _ h2 => hB.block g h2
set_option maxHeartbeats 1000000 in
theorem refslot_yes (w : World) {Q : Nat → Prop} (x : Rs) (V : Int) (A : List Int) (B : List (Int × Int)) (hx : RIs Q w x A B) (hA : A.length ≤ 64) (k n : Int) (hk : isC A k = true) :
    Calls Tryd.prog 51 #[x.v V A.length B.length, .int .i64 k, .int .i64 n] w fun e w' => ∃ x', e = .returned (.tuple #[x'.v V A.length B.length, .int .i64 0]) ∧ RNew Q w w' x' (A.set k.toNat n) B := by
  obtain ⟨w2, hw2⟩ : ∃ W, W = (w.alloc (x.obj V A.length B.length)).alloc (.cells #[.int .i64 0, .slice none 0 0, .slice none 0 0] 44) := ⟨_, rfl⟩
  have h2 := two_new w x V A.length B.length
  rw [← hw2] at h2
  have hy := of_decide_eq_true hk
  obtain ⟨j, rfl⟩ : ∃ j : Nat, k = (j : Int) := ⟨k.toNat, by omega⟩
  obtain ⟨hy1, hy2⟩ := hy
  have hj : j < A.length := by omega
  obtain ⟨g0, eg, -⟩ := (hx.later h2.below).a.see (List.getElem?_eq_getElem hj)
  have hrow : ∀ (i : Nat) (y : Int), A[i]? = some y → (w2.alloc (.cells #[] 3)).cell? ⟨g0, i, none⟩ = some (.int .i64 y) := fun i y hi => by
    obtain ⟨g1, e1, c⟩ := ((hx.later h2.below).later ((Below.refl w2.heap.size w2).alloc (Nat.le_refl _) (.cells #[] 3))).a.see hi
    rw [eg] at e1
    cases e1
    exact c
  obtain ⟨cap', w4, hrun, hb4, hlt4, hfz4, hc4⟩ := ints_app (w2.alloc (.cells #[] 3)) w2.heap.size g0 x.sc A (by omega) (by omega) hrow
  have hsz : (w2.alloc (.cells #[] 3)).heap.size = w2.heap.size + 1 := by simp
  have hb24 : Below w2.heap.size w2 w4 := ((Below.refl w2.heap.size w2).alloc (Nat.le_refl _) (.cells #[] 3)).trans (hb4.mono (by omega))
  obtain ⟨⟨d0, d1, d2, dz⟩, ⟨s0, s1, s2, sz⟩, hD⟩ := slot_done (cap' := cap') h2 hx hb24 (g := w2.heap.size + 1) rfl (by omega) (by rw [← hsz]; exact hc4) j hj n
  have HD := Lib.hid hD
  rw [hsz] at hrun hfz4
  have hcj : ∃ y, w4.cell? ⟨w2.heap.size + 1, j, none⟩ = some (.int .i64 y) := ⟨_, by rw [← hsz]; exact hc4 j _ (List.getElem?_eq_getElem hj)⟩
  obtain ⟨y, cj⟩ := hcj
  have HR := Lib.hid hrun
  obtain ⟨c0, c1, c2, cz⟩ := h2.x
  have h2s := h2.sz
  have hlt := hb24.size
  have a1 := (((Below.refl w2.heap.size w2).alloc (Nat.le_refl _) (.cells #[] 3)).cell (p := ⟨w.heap.size, 1, none⟩) (by simp only; omega)).trans c1
  have e0 : (j : Int).toNat = j := by omega
  rw [e0]
  unfold Rs.v
  unfold Rs.obj at hw2
  rw [eg] at c1 d1 a1 hw2 ⊢
  have HW := Lib.hid hw2.symm
  have hA2 : (A.length : Int) ≤ 64 := by omega
  clear hx h2 hw2 hA hk hrow hb4 hlt4 hc4 hb24 hD hrun e0 hsz
  generalize hna : A.length = na at *
  generalize B.length = nb at *
  generalize hz2 : w2.heap.size = zz at *
  have HZ := Lib.hid hz2
  have g1 : w.heap.size ≠ zz + 1 := by omega
  have g2 : w.heap.size + 1 ≠ zz + 1 := by omega
  clear hz2 h2s hlt
  go_enter Tryd.func51, Tryd.ntmps51
  go_wp2_with (first | rw [HW.out] | rw [HZ.out] | (at_builtin; refine append_run rfl (.tmp 18) (.tmp 20) 31 rfl _ _ _ _ rfl rfl (by first | exact HR.out | (rw [HZ.out]; exact HR.out)) ?_))
  have HE := Lib.hid (HD.out _ rfl)
  exact bodyPost_ret (results_cell2 (.int .i64 0) Tryd.results51 rfl rfl (HE.out.1.loadVar)) rfl ⟨⟨some ⟨zz + 1, 0, none⟩, cap', x.pa, x.pc⟩, rfl, HE.out.2⟩
end Go.Proofs.YtgjkkbgdkdipgaaDoor
