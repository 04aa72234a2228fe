/- The reference's New. Conditions: at most 64 clients and places. -/
import Derived.Test.YtgjkkbgdkdipgaaDoorRvC
namespace Go.Proofs.YtgjkkbgdkdipgaaDoor
open Go.RowKit Go.Op
set_option maxRecDepth 100000

def OwnP (w : World) (B : Nat) (v : Value) (l : List (Int × Int)) : Prop := w.ownsRow B 79 2 v l.length (pairRow l)
theorem OwnP.nil (w : World) (B : Nat) : OwnP w B (.slice none 0 0) [] := World.ownsRow_nil _ _ _ _
theorem OwnP.of {w w' : World} {B : Nat} {v : Value} {l : List (Int × Int)} (h : OwnP w B v l) (hk : ∀ k, v.ownBlock = some k → w'.heap[k]? = w.heap[k]?) : OwnP w' B v l := by
  obtain ⟨h1, h2⟩ := h
  refine ⟨h1, ?_⟩
  rcases h2 with h2 | ⟨g, cap, cur, rfl, b, c, d⟩
  · exact .inl h2
  · exact .inr ⟨g, cap, cur, rfl, b, by rw [hk g rfl]; exact c, d⟩
theorem OwnP.lt {w : World} {B : Nat} {v : Value} {l : List (Int × Int)} (h : OwnP w B v l) : ∀ k, v.ownBlock = some k → B ≤ k ∧ k < w.heap.size := World.ownsRow.lt h
theorem OwnP.row {w : World} {B : Nat} {v : Value} {l : List (Int × Int)} (h : OwnP w B v l) : ∃ a c, v = .slice a l.length c ∧ RowS (B ≤ ·) w a l := by
  have hlt := h.lt
  rcases h.2 with ⟨rfl, h2⟩ | ⟨g, cap, cur, rfl, b, c, d⟩
  · have : l = [] := List.eq_nil_of_length_eq_zero h2
    subst this
    exact ⟨none, 0, rfl, .inl rfl⟩
  · refine ⟨some ⟨g, 0, none⟩, cap, rfl, .inr ⟨g, rfl, (hlt g rfl).1, (hlt g rfl).2, fun i x hx => ?_⟩⟩
    obtain ⟨p1, p2⟩ := pairRow_at l i x hx
    have h1 := World.ownsRow.cells h (g := g) rfl _ _ p1
    have h2 := World.ownsRow.cells h (g := g) rfl _ _ p2
    rw [add_off, Nat.zero_add] at h1 h2
    exact ⟨h1, h2⟩
theorem OwnI.row {w : World} {B : Nat} {v : Value} {l : List Int} (h : OwnI w B v l) : ∃ a c, v = .slice a l.length c ∧ RowI (B ≤ ·) w a l := by
  obtain ⟨a, c, e, h1⟩ := h.see
  refine ⟨a, c, e, h1.imp id ?_⟩
  rintro ⟨g, e1, e2, h2⟩
  exact ⟨g, e1, (h.lt g e2).1, (h.lt g e2).2, h2⟩
theorem appendP {ops : Array Oper} {rest : List Oper} {o : Oper} {a : Act} {w : World} {Q : Exit → Act → World → Prop}
    (hg : o.guard = none) (s x : Operand) (hop : o.op = Op.call { callee := Callee.builtin Builtin.append, args := #[s, x], argTypes := #[42, 42] })
    (B : Nat) (v : Value) (l : List (Int × Int)) (n : Int × Int) (hs : a.eval s = v) (hown : OwnP w B v l) (g c : Nat) (hx : a.eval x = .slice (some ⟨g, 0, none⟩) 1 c) (hc : w.cell? ⟨g, 0, none⟩ = some (.int .i64 n.1)) (hc2 : w.cell? ⟨g, 1, none⟩ = some (.int .i64 n.2))
    (hl : l.length ≤ 1000000) (hB : B ≤ w.heap.size)
    (hK : ∀ v' w', OwnP w' B v' (l ++ [n]) → w.grownBy w' v.ownBlock → (v'.ownBlock = v.ownBlock ∨ v'.ownBlock = some w.heap.size) → wpList Tryd.prog ops Q rest (a.put o.dst v') w') :
    wpList Tryd.prog ops Q (o :: rest) a w := by
  obtain ⟨i0, hi, hz0, hz1, hz2⟩ := info_parts info79
  refine wpList_append_own_at w hg s x 42 hop B 79 i0 (.agg #[.int .i64 0, .int .i64 0]) 2 16 Tryd.underlying42 hi hz0 hz1 hz2 rfl (by decide) v _ _ hs hown ⟨g, 0, none⟩ 1 c [.int .i64 n.1, .int .i64 n.2] hx rfl ?_ (fun u hu => by simp at hu; rcases hu with rfl | rfl <;> rfl) (by unfold maxLen; omega) (by omega) hB ?_
  · intro j u hu
    match j, hu with
    | 0, hu => simp at hu; subst hu; exact hc
    | 1, hu => simp at hu; subst hu; exact hc2
  · intro v' w' h1 h2 _ h4
    refine hK v' w' ?_ h2 h4
    unfold OwnP
    rw [pairRow_snoc, List.length_append]
    exact h1
/-- In the midst of New. -/
structure NwMid (w : World) (V : Int) (i j : Nat) (v u : Value) (wr : World) : Prop where
  own : OwnI wr (w.heap.size + 2) v (List.replicate i (-1))
  ownp : OwnP wr (w.heap.size + 2) u (List.replicate j (0, -1))
  ap : ∀ k, v.ownBlock = some k → u.ownBlock ≠ some k
  x : V3 wr (w.heap.size + 1) V v u
  r : V3 wr w.heap.size 0 (.slice none 0 0) (.slice none 0 0)
  below : Below w.heap.size w wr
  sz : w.heap.size + 2 ≤ wr.heap.size
section
variable {w wr w1 w6 : World} {V : Int} {i j : Nat} {v u v' : Value}
theorem NwMid.start (w : World) (V : Int) : NwMid w V 0 0 (.slice none 0 0) (.slice none 0 0) ((w.alloc (.cells #[.int .i64 0, .slice none 0 0, .slice none 0 0] 44)).alloc (.cells #[.int .i64 V, .slice none 0 0, .slice none 0 0] 44)) := by
  have hz : (w.alloc (.cells #[.int .i64 0, .slice none 0 0, .slice none 0 0] 44)).heap.size = w.heap.size + 1 := by simp
  have b2 := (Below.refl (w.alloc (.cells #[.int .i64 0, .slice none 0 0, .slice none 0 0] 44)).heap.size (w.alloc (.cells #[.int .i64 0, .slice none 0 0, .slice none 0 0] 44))).alloc (Nat.le_refl _) (.cells #[.int .i64 V, .slice none 0 0, .slice none 0 0] 44)
  refine ⟨OwnI.nil _ _, OwnP.nil _ _, fun k e => (by cases e), ?_, (V3.new w 0 _ _).same (b2.block _ (by omega)), ((Below.refl _ _).alloc (Nat.le_refl _) _).alloc (by simp) _, by simp⟩
  have := V3.new (w.alloc (.cells #[.int .i64 0, .slice none 0 0, .slice none 0 0] 44)) V (.slice none 0 0) (.slice none 0 0)
  rw [hz] at this
  exact this
/-- Behind an append of a slot. -/
theorem NwMid.grow1 (h : NwMid w V i j v u wr) (hb : Below wr.heap.size wr w1) (own : OwnI w6 (w.heap.size + 2) v' (List.replicate i (-1) ++ [-1])) (hg : w1.grownBy w6 v.ownBlock) (hn : v'.ownBlock = v.ownBlock ∨ v'.ownBlock = some w1.heap.size) :
    V3 w6 (w.heap.size + 1) V v u ∧ NwMid w V (i + 1) j v' u (w6.setCell ⟨w.heap.size + 1, 1, none⟩ v') ∧ ∃ a c, v' = .slice a (i + 1) c := by
  have hs1 := hb.size
  have hs6 := hg.size
  have hsz := h.sz
  have h6 : ∀ z, z < w.heap.size + 2 → w6.heap[z]? = wr.heap[z]? := fun z hz => (hg.block z (by omega) (fun e => by have := (h.own.lt z e.symm).1; omega)).trans (hb.block z (by omega))
  have kx : V3 w6 (w.heap.size + 1) V v u := h.x.same (h6 _ (by omega))
  have b1 : But (w.heap.size + 1) w6 (w6.setCell ⟨w.heap.size + 1, 1, none⟩ v') := (But.refl _ _).set _ _
  have keepu : ∀ k, u.ownBlock = some k → w6.heap[k]? = wr.heap[k]? := fun k hk => (hg.block k (by have := (h.ownp.lt k hk).2; omega) (fun e => h.ap k e.symm hk)).trans (hb.block k (h.ownp.lt k hk).2)
  have own' : OwnI w6 (w.heap.size + 2) v' (List.replicate (i + 1) (-1)) := by rw [List.replicate_succ']; exact own
  refine ⟨kx, ⟨own'.of fun k hk => b1.block k (own'.lt k hk).2 (by have := (own'.lt k hk).1; omega), (h.ownp.of keepu).of fun k hk => b1.block k (by have := (h.ownp.lt k hk).2; omega) (by have := (h.ownp.lt k hk).1; omega), fun k hk e => ?_, kx.set1 _, (h.r.same (h6 _ (by omega))).same (b1.block _ (by omega) (by omega)), ?_, by have := b1.size; omega⟩, ?_⟩
  · rcases hn with e2 | e2
    · rw [e2] at hk; exact h.ap k hk e
    · rw [e2] at hk; cases hk; have := (h.ownp.lt _ e).2; omega
  · have hb0 := h.below
    exact ⟨b1.os.trans (hg.os.trans (hb.os.trans hb0.os)), b1.tape.trans (hg.tape.trans (hb.tape.trans hb0.tape)), b1.output.trans (hg.output.trans (hb.output.trans hb0.output)), by have := b1.size; omega, fun z hz => by
      rw [b1.block z (by omega) (by omega), h6 z (by omega)]; exact hb0.block z hz⟩
  · obtain ⟨a, c, e, -⟩ := own'.see
    rw [List.length_replicate] at e
    exact ⟨a, c, e⟩
/-- Behind an append of a place. -/
theorem NwMid.grow2 (h : NwMid w V i j v u wr) (hb : Below wr.heap.size wr w1) (own : OwnP w6 (w.heap.size + 2) v' (List.replicate j (0, -1) ++ [(0, -1)])) (hg : w1.grownBy w6 u.ownBlock) (hn : v'.ownBlock = u.ownBlock ∨ v'.ownBlock = some w1.heap.size) :
    V3 w6 (w.heap.size + 1) V v u ∧ NwMid w V i (j + 1) v v' (w6.setCell ⟨w.heap.size + 1, 2, none⟩ v') ∧ ∃ a c, v' = .slice a (j + 1) c := by
  have hs1 := hb.size
  have hs6 := hg.size
  have hsz := h.sz
  have h6 : ∀ z, z < w.heap.size + 2 → w6.heap[z]? = wr.heap[z]? := fun z hz => (hg.block z (by omega) (fun e => by have := (h.ownp.lt z e.symm).1; omega)).trans (hb.block z (by omega))
  have kx : V3 w6 (w.heap.size + 1) V v u := h.x.same (h6 _ (by omega))
  have b1 : But (w.heap.size + 1) w6 (w6.setCell ⟨w.heap.size + 1, 2, none⟩ v') := (But.refl _ _).set _ _
  have keepv : ∀ k, v.ownBlock = some k → w6.heap[k]? = wr.heap[k]? := fun k hk => (hg.block k (by have := (h.own.lt k hk).2; omega) (fun e => h.ap k hk e.symm)).trans (hb.block k (h.own.lt k hk).2)
  have own' : OwnP w6 (w.heap.size + 2) v' (List.replicate (j + 1) (0, -1)) := by rw [List.replicate_succ']; exact own
  refine ⟨kx, ⟨(h.own.of keepv).of fun k hk => b1.block k (by have := (h.own.lt k hk).2; omega) (by have := (h.own.lt k hk).1; omega), own'.of fun k hk => b1.block k (own'.lt k hk).2 (by have := (own'.lt k hk).1; omega), fun k hk e => ?_, kx.set2 _, (h.r.same (h6 _ (by omega))).same (b1.block _ (by omega) (by omega)), ?_, by have := b1.size; omega⟩, ?_⟩
  · rcases hn with e2 | e2
    · rw [e2] at e; exact h.ap k hk e
    · rw [e2] at e; cases e; have := (h.own.lt _ hk).2; omega
  · have hb0 := h.below
    exact ⟨b1.os.trans (hg.os.trans (hb.os.trans hb0.os)), b1.tape.trans (hg.tape.trans (hb.tape.trans hb0.tape)), b1.output.trans (hg.output.trans (hb.output.trans hb0.output)), by have := b1.size; omega, fun z hz => by
      rw [b1.block z (by omega) (by omega), h6 z (by omega)]; exact hb0.block z hz⟩
  · obtain ⟨a, c, e, -⟩ := own'.row
    rw [List.length_replicate] at e
    exact ⟨a, c, e⟩
theorem NwMid.slot (h : NwMid w V i j v u wr) : (∃ a c, v = .slice a i c) ∧ ∃ a c, u = .slice a j c := by
  obtain ⟨a, c, e, -⟩ := h.own.row
  obtain ⟨a2, c2, e2, -⟩ := h.ownp.row
  rw [List.length_replicate] at e e2
  exact ⟨⟨a, c, e⟩, a2, c2, e2⟩
/-- At the end. -/
theorem NwMid.done {va vb : Option Addr} {ca cb : Nat} (h : NwMid w V i j (.slice va i ca) (.slice vb j cb) wr) : V3 (put3 wr w.heap.size V (.slice va i ca) (.slice vb j cb)) w.heap.size V (.slice va i ca) (.slice vb j cb) ∧ RNew (fun _ => False) w (put3 wr w.heap.size V (.slice va i ca) (.slice vb j cb)) ⟨va, ca, vb, cb⟩ (List.replicate i (-1)) (List.replicate j (0, -1)) := by
  obtain ⟨a, c, e, ha⟩ := h.own.row
  obtain ⟨a2, c2, e2, ha2⟩ := h.ownp.row
  rw [List.length_replicate] at e e2
  cases e
  cases e2
  have b := But.put3 wr w.heap.size V (.slice va i ca) (.slice vb j cb)
  have hsz := h.sz
  have hB : Below w.heap.size w (put3 wr w.heap.size V (.slice va i ca) (.slice vb j cb)) := ⟨b.os.trans h.below.os, b.tape.trans h.below.tape, b.output.trans h.below.output, Nat.le_trans h.below.size b.size, fun z hz => (b.block z (by omega) (by omega)).trans (h.below.block z hz)⟩
  exact ⟨h.r.put _ _ _, ⟨ha.keep (fun g q _ => .inr (by omega)) b.size (fun g q hl => b.block g hl (by omega)), ha2.keep (fun g q _ => .inr (by omega)) b.size (fun g q hl => b.block g hl (by omega))⟩, hB⟩
end
set_option maxHeartbeats 2000000 in
theorem refnew_any (w : World) (V : Int) (a k : Nat) (ha : a ≤ 64) (hk : k ≤ 64) :
    Calls Tryd.prog 14 #[.int .i64 V, .int .i64 (a : Int), .int .i64 (k : Int)] w fun e w' => ∃ x : Rs, e = .returned (x.v V a k) ∧ RNew (fun _ => False) w w' x (List.replicate a (-1)) (List.replicate k (0, -1)) := by
  have HH := Lib.hid (NwMid.start w V)
  have ha2 : (a : Int) ≤ 64 := by omega
  have hk2 : (k : Int) ≤ 64 := by omega
  unfold Rs.v
  go_enter Tryd.func14, Tryd.ntmps14
  go_wp2_with fail
  go_loopw [8] (fun iv wr => ∃ (i : Nat) (va : Option Addr) (ca : Nat), iv = .int .i64 (i : Int) ∧ i ≤ a ∧ Hid (NwMid w V i 0 (.slice va i ca) (.slice none 0 0) wr)) (fun iv _ => a - (intOf iv).toNat)
  case atStart => exact ⟨0, none, 0, rfl, Nat.zero_le _, HH⟩
  case round =>
    obtain ⟨i, va, ca, rfl, hi, hR⟩ := hrel
    clear HH
    by_cases hlt : i < a
    · have i1 : (i : Int) < (a : Int) := by omega
      obtain ⟨c0, c1, c2, cz⟩ := hR.out.x
      have hal := (Below.refl wr.heap.size wr).alloc (Nat.le_refl _) (.cells #[.int .i64 (-1)] 3)
      have HM := Lib.hid hR.out
      have HO := Lib.hid (hR.out.own.below hal)
      clear hR hal
      go_wp2_with (at_builtin; refine append1 rfl (.tmp 18) (.tmp 19) rfl (w.heap.size + 2) (.slice va i ca) (List.replicate i (-1)) (-1) rfl HO.out wr.heap.size 1 rfl (alloc_cell _ _ _ 0 _ rfl) (by rw [List.length_replicate]; omega) (by have := HM.out.sz; simp; omega) ?_; intro v' w6 g1 g2 g3; obtain ⟨⟨d0, d1, d2, dz⟩, hm, va', ca', rfl⟩ := HM.out.grow1 ((Below.refl wr.heap.size wr).alloc (Nat.le_refl _) (.cells #[.int .i64 (-1)] 3)) g1 g2 g3; have HN := Lib.hid hm; clear g1 g2 g3 hm)
      go_roundw
      case rel => exact ⟨i + 1, va', ca', by simp, by omega, HN⟩
      case measure => simp [intOf]; omega
    · obtain rfl : i = a := by omega
      clear hlt
      go_wp2_with fail
      go_loopw [9] (fun jv wk => ∃ (j : Nat) (vb : Option Addr) (cb : Nat), jv = .int .i64 (j : Int) ∧ j ≤ k ∧ Hid (NwMid w V i j (.slice va i ca) (.slice vb j cb) wk)) (fun jv _ => k - (intOf jv).toNat)
      case atStart => exact ⟨0, none, 0, rfl, Nat.zero_le _, hR⟩
      case round =>
        obtain ⟨j, vb, cb, rfl, hj, hR2⟩ := hrel
        clear hR
        by_cases hlt2 : j < k
        · have j1 : (j : Int) < (k : Int) := by omega
          obtain ⟨c0, c1, c2, cz⟩ := hR2.out.x
          have hal := (Below.refl wr.heap.size wr).alloc (Nat.le_refl _) (.cells #[.int .i64 0, .int .i64 (-1)] 79)
          have HM := Lib.hid hR2.out
          have HO : Hid (OwnP (wr.alloc (.cells #[.int .i64 0, .int .i64 (-1)] 79)) (w.heap.size + 2) (.slice vb j cb) (List.replicate j (0, -1))) := hR2.out.ownp.of fun kk hkk => hal.block kk (hR2.out.ownp.lt kk hkk).2
          clear hR2 hal
          go_wp2_with (at_builtin; refine appendP rfl (.tmp 28) (.tmp 30) rfl (w.heap.size + 2) (.slice vb j cb) (List.replicate j (0, -1)) (0, -1) rfl HO.out wr.heap.size 1 rfl (alloc_cell _ _ _ 0 _ rfl) (alloc_cell _ _ _ 1 _ rfl) (by rw [List.length_replicate]; omega) (by have := HM.out.sz; simp; omega) ?_; intro v' w6 g1 g2 g3; obtain ⟨⟨d0, d1, d2, dz⟩, hm, va', ca', rfl⟩ := HM.out.grow2 ((Below.refl wr.heap.size wr).alloc (Nat.le_refl _) (.cells #[.int .i64 0, .int .i64 (-1)] 79)) g1 g2 g3; have HN := Lib.hid hm; clear g1 g2 g3 hm)
          go_roundw
          case rel => exact ⟨j + 1, va', ca', by simp, by omega, HN⟩
          case measure => simp [intOf]; omega
        · obtain rfl : j = k := by omega
          clear hlt2
          obtain ⟨c0, c1, c2, cz⟩ := hR2.out.x
          obtain ⟨r0, r1, r2, rz⟩ := hR2.out.r
          have HE := Lib.hid hR2.out.done
          clear hR2
          go_wp2_with fail
          exact bodyPost_ret (results_cell1 Tryd.results14 rfl HE.out.1.loadVar) rfl ⟨⟨va, ca, vb, cb⟩, rfl, HE.out.2⟩
end Go.Proofs.YtgjkkbgdkdipgaaDoor
