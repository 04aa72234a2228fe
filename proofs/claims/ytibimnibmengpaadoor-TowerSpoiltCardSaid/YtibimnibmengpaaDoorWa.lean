/- When a row of which one view is otherwise is right; such a row in memory. No condition. -/
import Derived.Test.YtibimnibmengpaaDoorTu
namespace Go.Proofs.YtibimnibmengpaaDoor
open Go.RowKit Go.Op
set_option maxRecDepth 100000

theorem text_eq {a b : ByteArray} (h : a.toList = b.toList) : a = b := by
  rw [ByteArray.toList_eq, ByteArray.toList_eq] at h
  cases a
  cases b
  simp only [Array.toList_inj] at h
  rw [h]
theorem toF_map (lv : Int) : ∀ (a b : List (Vw × Vs)), a.map (fun x => (x.1.h, x.1.links.length)) = b.map (fun x => (x.1.h, x.1.links.length)) → toF lv a = toF lv b
  | [], [], _ => rfl
  | [], _ :: _, h => by simp at h
  | _ :: _, [], h => by simp at h
  | x :: a, y :: b, h => by
    rw [List.map_cons, List.map_cons] at h
    have h1 := (List.cons.inj h).1
    rw [toF, toF, toF_map lv a b (List.cons.inj h).2, (Prod.mk.inj h1).1, (Prod.mk.inj h1).2]
section
variable {vl : List (Vw × Vs)} {i : Nat} {x : Vw × Vs} {v' : Vw} {q' : Vs}
theorem set_self (hx : vl[i]? = some x) (z : Vw × Vs) : (vl.set i z)[i]? = some z := List.getElem?_set_self (List.getElem?_eq_some_iff.1 hx).1
theorem toV_set (hx : vl[i]? = some x) (hh : v'.h = x.1.h) (hl : v'.links.length = x.1.links.length) (j lv : Int) : toV (vl.set i (v', q')) j lv = toV vl j lv := by
  have e : (vl.set i (v', q')).map (fun x => (x.1.h, x.1.links.length)) = vl.map (fun x => (x.1.h, x.1.links.length)) := by
    refine List.ext_getElem? fun k => ?_
    rw [List.getElem?_map, List.getElem?_map]
    by_cases e : k = i
    · subst e
      rw [set_self hx, hx]
      simp [hh, hl]
    · rw [List.getElem?_set_ne (Ne.symm e)]
  unfold toV
  rw [List.length_set]
  split
  · rfl
  · refine toF_map _ _ _ ?_
    rw [List.map_drop, List.map_drop, e]
theorem lowAt_set_ne {j : Nat} (hj : j ≠ i + 1) : lowAt (vl.set i (v', q')) j = lowAt vl j := by
  cases j with
  | zero => rfl
  | succ j =>
    rw [lowAt, lowAt, List.getElem?_set_ne (by omega)]
theorem lowAt_set (hx : vl[i]? = some x) : lowAt (vl.set i (v', q')) (i + 1) = v'.rv.hi := by
  rw [lowAt, set_self hx]
theorem lowAt_at (hx : vl[i]? = some x) : lowAt vl (i + 1) = x.1.rv.hi := by
  rw [lowAt, hx]
/-- A row that is right, one of whose views was changed. -/
theorem rightP_set (hR : RightP vl) (hx : vl[i]? = some x) (hh : v'.h = x.1.h) (hl : v'.links.length = x.1.links.length) :
    RightP (vl.set i (v', q')) ↔ v'.nd.low.toList = x.1.nd.low.toList ∧ spansB v' (decide (i + 1 = vl.length)) = true ∧ (∀ (k : Nat) (y : Int), v'.links[k]? = some y → tto y = toV vl (i : Int) (k : Int)) ∧ (i + 1 < vl.length → v'.rv.hi.toList = x.1.rv.hi.toList) := by
  have hg := set_self hx (v', q')
  have hn : ∀ j, j ≠ i → (vl.set i (v', q'))[j]? = vl[j]? := fun j hj => List.getElem?_set_ne (Ne.symm hj)
  have r1 := hR.2 i x hx
  have same : ∀ j, ((vl.set i (v', q'))[j]?).map (fun z : Vw × Vs => z.1.links.length) = (vl[j]?).map fun z : Vw × Vs => z.1.links.length := fun j => by
    by_cases e : j = i
    · rw [e, hg, hx]
      simp [hl]
    · rw [hn j e]
  constructor
  · intro hQ
    have q1 := hQ.2 i _ hg
    refine ⟨?_, ?_, ?_, fun hi => ?_⟩
    · have h1 := q1.1
      have h2 := r1.1
      rw [lowAt_set_ne (by omega)] at h1
      rw [beq_iff_eq] at h1 h2
      exact h1.trans h2.symm
    · have h1 := q1.2.1
      rwa [List.length_set] at h1
    · intro k y hk
      obtain ⟨x0, x1, -, e1, -, -, h3⟩ := q1.2.2
      rw [hg] at e1
      cases e1
      rw [h3 k y hk, toV_set hx hh hl]
    · obtain ⟨y, hy⟩ : ∃ y, vl[i + 1]? = some y := ⟨_, List.getElem?_eq_getElem hi⟩
      have h1 := (hQ.2 (i + 1) y (by rw [hn _ (by omega)]; exact hy)).1
      have h2 := (hR.2 (i + 1) y hy).1
      rw [lowAt_set hx, beq_iff_eq] at h1
      rw [lowAt_at hx, beq_iff_eq] at h2
      exact h1.symm.trans h2
  · rintro ⟨p1, p2, p3, p4⟩
    refine ⟨fun e => ?_, fun j z hz => ?_⟩
    · have h1 := congrArg List.length e
      rw [List.length_set, List.length_nil] at h1
      exact hR.1 (List.length_eq_zero_iff.1 h1)
    · obtain ⟨x0, xi, e0, ei, l1, l2, l3⟩ := r1.2.2
      have hi : xi = x := by rw [hx] at ei; exact (Option.some.inj ei).symm
      subst hi
      obtain ⟨z0, hz0, hzl⟩ : ∃ z0, (vl.set i (v', q'))[0]? = some z0 ∧ z0.1.links.length = x0.1.links.length := by
        have h1 := same 0
        rw [e0] at h1
        cases h2 : (vl.set i (v', q'))[0]? with
        | none => rw [h2] at h1; cases h1
        | some z0 => rw [h2] at h1; exact ⟨z0, rfl, Option.some.inj h1⟩
      by_cases e : j = i
      · subst e
        rw [hg] at hz
        cases hz
        refine ⟨?_, by rw [List.length_set]; exact p2, z0, _, hz0, hg, fun e => l1 (List.length_eq_zero_iff.1 (by rw [← hl, e]; rfl)), by rw [hl, hzl]; exact l2, fun k y hk => by rw [p3 k y hk, toV_set hx hh hl]⟩
        have h2 := r1.1
        rw [beq_iff_eq] at h2 ⊢
        rw [lowAt_set_ne (by omega)]
        exact p1.trans h2
      · rw [hn j e] at hz
        have rj := hR.2 j z hz
        refine ⟨?_, by rw [List.length_set]; exact rj.2.1, ?_⟩
        · have h2 := rj.1
          rw [beq_iff_eq] at h2 ⊢
          by_cases e2 : j = i + 1
          · subst e2
            rw [lowAt_set hx, p4 (List.getElem?_eq_some_iff.1 hz).1]
            rw [lowAt_at hx] at h2
            exact h2
          · rw [lowAt_set_ne e2]; exact h2
        · obtain ⟨y0, yj, f0, fj, m1, m2, m3⟩ := rj.2.2
          rw [e0] at f0
          cases f0
          rw [hz] at fj
          cases fj
          exact ⟨z0, z, hz0, by rw [hn j e]; exact hz, m1, by rw [hzl]; exact m2, fun k y hk => by rw [m3 k y hk, toV_set hx hh hl]⟩
theorem set_same_at (hx : vl[i]? = some x) : vl.set i x = vl := by
  obtain ⟨h1, h2⟩ := List.getElem?_eq_some_iff.1 hx
  rw [← h2]
  exact List.set_getElem_self h1
/-- Its low. -/
def Vw.low' (v : Vw) (t : ByteArray) : Vw := { v with nd := { v.nd with low := t } }
def Vw.lo' (v : Vw) (t : ByteArray) : Vw := { v with rv := { v.rv with lo := t } }
def Vw.hi' (v : Vw) (t : ByteArray) : Vw := { v with rv := { v.rv with hi := t } }
def Vw.all' (v : Vw) (b : Bool) : Vw := { v with rv := { v.rv with all := b } }
def Vw.dead' (v : Vw) (b : Bool) : Vw := { v with rv := { v.rv with dead := b } }
def Vw.links' (v : Vw) (l : List Int) : Vw := { v with links := l }
theorem spans_parts {v : Vw} {last : Bool} (h : spansB v last = true) : v.rv.dead = false ∧ v.rv.lo.toList = v.nd.low.toList ∧ v.rv.all = last := by
  unfold spansB at h
  simp only [Bool.and_eq_true, Bool.not_eq_true', beq_iff_eq] at h
  exact ⟨h.1, h.2.2.1, h.2.2.2⟩
theorem spoil_low (hR : RightP vl) (hx : vl[i]? = some x) (t : ByteArray) : RightP (vl.set i (x.1.low' t, x.2)) ↔ (t.toList == x.1.nd.low.toList) = true := by
  rw [beq_iff_eq]
  constructor
  · intro h
    exact ((rightP_set (v' := x.1.low' t) hR hx rfl rfl).1 h).1
  · intro h
    have : x.1.low' t = x.1 := by rw [text_eq h]; rfl
    rw [this]
    show RightP (vl.set i x)
    rw [set_same_at hx]; exact hR
theorem spoil_lo (hR : RightP vl) (hx : vl[i]? = some x) (t : ByteArray) : RightP (vl.set i (x.1.lo' t, x.2)) ↔ (t.toList == x.1.rv.lo.toList) = true := by
  rw [beq_iff_eq]
  constructor
  · intro h
    have h1 := (spans_parts ((rightP_set (v' := x.1.lo' t) hR hx rfl rfl).1 h).2.1).2.1
    have h2 := (spans_parts (hR.2 i x hx).2.1).2.1
    exact h1.trans h2.symm
  · intro h
    have : x.1.lo' t = x.1 := by rw [text_eq h]; rfl
    rw [this]
    show RightP (vl.set i x)
    rw [set_same_at hx]; exact hR
theorem spoil_hi (hR : RightP vl) (hx : vl[i]? = some x) (t : ByteArray) (hi : i + 1 < vl.length) : RightP (vl.set i (x.1.hi' t, x.2)) ↔ (t.toList == x.1.rv.hi.toList) = true := by
  rw [beq_iff_eq]
  constructor
  · intro h
    exact ((rightP_set (v' := x.1.hi' t) hR hx rfl rfl).1 h).2.2.2 hi
  · intro h
    have : x.1.hi' t = x.1 := by rw [text_eq h]; rfl
    rw [this]
    show RightP (vl.set i x)
    rw [set_same_at hx]; exact hR
theorem spoil_last (hR : RightP vl) (hx : vl[i]? = some x) (t : ByteArray) (hi : i + 1 = vl.length) : RightP (vl.set i (x.1.hi' t, x.2)) := by
  refine (rightP_set (v' := x.1.hi' t) hR hx rfl rfl).2 ⟨rfl, ?_, ?_, fun h => by omega⟩
  · have h1 := (hR.2 i x hx).2.1
    have h2 := (spans_parts h1).2.2
    rw [decide_eq_true hi] at h1 h2 ⊢
    unfold spansB at h1 ⊢
    show (!x.1.rv.dead && (!(⟨x.1.rv.lo, t, x.1.rv.all⟩ : Kp).empty && (x.1.rv.lo.toList == x.1.nd.low.toList && x.1.rv.all == true))) = true
    simp only [Kp.empty, h2] at h1 ⊢
    exact h1
  · obtain ⟨x0, xi, -, ei, -, -, l3⟩ := (hR.2 i x hx).2.2
    rw [hx] at ei
    cases ei
    exact l3
theorem spoil_all (hR : RightP vl) (hx : vl[i]? = some x) : ¬ RightP (vl.set i (x.1.all' (!x.1.rv.all), x.2)) := fun h => by
  have h1 := (spans_parts ((rightP_set (v' := x.1.all' (!x.1.rv.all)) hR hx rfl rfl).1 h).2.1).2.2
  have h2 := (spans_parts (hR.2 i x hx).2.1).2.2
  have h3 : (!x.1.rv.all) = x.1.rv.all := h1.trans h2.symm
  revert h3
  cases x.1.rv.all <;> simp
theorem spoil_dead (hR : RightP vl) (hx : vl[i]? = some x) : ¬ RightP (vl.set i (x.1.dead' true, x.2)) := fun h => by
  have h1 := (spans_parts ((rightP_set (v' := x.1.dead' true) hR hx rfl rfl).1 h).2.1).1
  cases h1
theorem spoil_link (hR : RightP vl) (hx : vl[i]? = some x) {k : Nat} {u : Int} (hk : x.1.links[k]? = some u) (y : Int) (q : Vs) : RightP (vl.set i (x.1.links' (x.1.links.set k y), q)) ↔ (tto y == tto u) = true := by
  rw [beq_iff_eq]
  have hkl := (List.getElem?_eq_some_iff.1 hk).1
  obtain ⟨x0, xi, -, ei, -, -, l3⟩ := (hR.2 i x hx).2.2
  rw [hx] at ei
  cases ei
  have hl : (x.1.links' (x.1.links.set k y)).links.length = x.1.links.length := by show (x.1.links.set k y).length = _; rw [List.length_set]
  constructor
  · intro h
    have h1 := ((rightP_set (v' := x.1.links' (x.1.links.set k y)) hR hx rfl hl).1 h).2.2.1 k y (by show (x.1.links.set k y)[k]? = _; exact List.getElem?_set_self hkl)
    exact h1.trans (l3 k u hk).symm
  · intro h
    refine (rightP_set (v' := x.1.links' (x.1.links.set k y)) hR hx rfl hl).2 ⟨rfl, (hR.2 i x hx).2.1, fun k' z hz => ?_, fun _ => rfl⟩
    have hz2 : (x.1.links.set k y)[k']? = some z := hz
    by_cases e : k' = k
    · subst e
      rw [List.getElem?_set_self hkl] at hz2
      cases hz2
      rw [h, l3 _ u hk]
    · rw [List.getElem?_set_ne (Ne.symm e)] at hz2
      exact l3 k' z hz2
/-- Its cells. -/
theorem vrows_set : ∀ (l : List (Vw × Vs)) (i : Nat) (x x' : Vw × Vs) (o : Nat) (u : Value), l[i]? = some x → o < 16 → x'.1.row x'.2 = (x.1.row x.2).set o u → vrows (l.set i x') = (vrows l).set (i * 16 + o) u
  | [], i, x, x', o, u, hx, _, _ => by simp at hx
  | y :: l, 0, x, x', o, u, hx, ho, he => by
    simp only [List.getElem?_cons_zero, Option.some.injEq] at hx
    subst hx
    rw [List.set_cons_zero, vrows, List.flatMap_cons, he, vrows, List.flatMap_cons, Nat.zero_mul, Nat.zero_add, List.set_append_left _ _ (by simpa [Vw.row] using ho)]
  | y :: l, i + 1, x, x', o, u, hx, ho, he => by
    have h2 : l[i]? = some x := by simpa using hx
    have ih := vrows_set l i x x' o u h2 ho he
    have hy : (y.1.row y.2).length = 16 := rfl
    rw [List.set_cons_succ, vrows, List.flatMap_cons, vrows, List.flatMap_cons]
    rw [vrows, vrows] at ih
    rw [ih, List.set_append_right _ _ (by rw [hy]; omega), hy, show (i + 1) * 16 + o - 16 = i * 16 + o by omega]
end
section
variable {W W' : World} {g : Nat} {vl : List (Vw × Vs)} {i : Nat} {x x' : Vw × Vs}
theorem range_set {l : List Value} {o : Nat} (h : W.rangeAt g 0 l) (ho : o < l.length) (u : Value) : (W.setCell ⟨g, o, none⟩ u).rangeAt g 0 (l.set o u) := by
  intro j v hj
  rw [Nat.zero_add]
  rw [List.getElem?_set] at hj
  split at hj
  · rename_i e
    subst e
    cases hj
    have := h o _ (List.getElem?_eq_getElem ho)
    rw [Nat.zero_add] at this
    exact set_same this
  · rename_i e
    have := h j v hj
    rw [Nat.zero_add] at this
    exact set_other this (.inr e)
theorem VRow.turned (h : VRow W (some ⟨g, 0, none⟩) vl) (hs : Aside g vl) (hg : g < W.heap.size) (hr : W'.rangeAt g 0 (vrows (vl.set i x'))) (hz : W.heap.size ≤ W'.heap.size) (hb : ∀ z, z < W.heap.size → z ≠ g → W'.heap[z]? = W.heap[z]?)
    (hn : x'.2.pl.n = x'.1.links.length ∧ SlAt W' x'.2.pl.a x'.1.links ∧ x'.1.links.length ≤ 1000000) : VRow W' (some ⟨g, 0, none⟩) (vl.set i x') := by
  refine ⟨.inr ⟨g, 0, rfl, by omega, hr⟩, fun y hy => ?_, by rw [List.length_set]; exact h.few⟩
  rcases List.mem_or_eq_of_mem_set hy with hy | e
  · obtain ⟨h1, h2, h3⟩ := h.lk y hy
    refine ⟨h1, ?_, h3⟩
    rcases hs y hy with e | ⟨g', o', ea, hne⟩
    · exact .inl e
    · rcases h2 with e | ⟨g2, o2, e2, h4, h5⟩
      · exact .inl e
      · rw [ea] at e2
        cases e2
        exact .inr ⟨_, _, ea, by omega, rangeAt_same h5 (hb _ h4 hne)⟩
  · subst e; exact hn
/-- One cell of a view is stored. -/
theorem VRow.put (h : VRow W (some ⟨g, 0, none⟩) vl) (hs : Aside g vl) (hg : g < W.heap.size) (hr : W.rangeAt g 0 (vrows vl)) (hx : vl[i]? = some x) {o : Nat} (ho : o < 16) {v' : Vw} {u : Value} (he : v'.row x.2 = (x.1.row x.2).set o u) (hl : v'.links = x.1.links) :
    VRow (W.setCell ⟨g, i * 16 + o, none⟩ u) (some ⟨g, 0, none⟩) (vl.set i (v', x.2)) := by
  have hil := (List.getElem?_eq_some_iff.1 hx).1
  have hb : ∀ z, z < W.heap.size → z ≠ g → (W.setCell ⟨g, i * 16 + o, none⟩ u).heap[z]? = W.heap[z]? := fun z _ hzg => Below.heap_setCell _ _ _ _ hzg
  have hsz : (W.setCell ⟨g, i * 16 + o, none⟩ u).heap.size = W.heap.size := by simp [World.setCell]
  refine h.turned hs hg ?_ (by rw [hsz]; exact Nat.le_refl _) hb ?_
  · rw [vrows_set vl i x (v', x.2) o u hx ho he]
    exact range_set hr (by rw [vrows_length]; omega) u
  · obtain ⟨h1, h2, h3⟩ := h.lk x (List.mem_of_getElem? hx)
    simp only
    rw [hl]
    refine ⟨h1, ?_, h3⟩
    rcases hs x (List.mem_of_getElem? hx) with e | ⟨g', o', ea, hne⟩
    · exact .inl e
    · rcases h2 with e | ⟨g2, o2, e2, h4, h5⟩
      · exact .inl e
      · rw [ea] at e2
        cases e2
        exact .inr ⟨_, _, ea, by rw [hsz]; exact h4, rangeAt_same h5 (hb _ h4 hne)⟩
end
end Go.Proofs.YtibimnibmengpaaDoor
