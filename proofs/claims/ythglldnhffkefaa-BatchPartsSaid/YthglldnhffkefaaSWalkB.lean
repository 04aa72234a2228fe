/- A row of entries that is being sorted, in memory: what is read of it, and two of its entries exchanged. No condition. -/
import Derived.Test.YthglldnhffkefaaSWalkA
import Derived.Test.YthglldnhffkefaaEWalkB
namespace Go.Proofs.Ythglldnhffkefaa
open Go.RowKit Go.Op Go.Sort
set_option maxRecDepth 100000

instance : Inhabited En := ⟨⟨no, no, false⟩⟩
/-- A world that sorting comes to from w0: the row in the block g is l; some blocks stand behind all. -/
def Srt (w0 : World) (g : Nat) (l : List En) (W : World) : Prop := SWK En.cells 3 w0 g 0 l.toArray W
/-- What stood there at first. -/
def Sow (w0 : World) (g : Nat) (n : Nat) : Prop := ∃ l0 : List En, l0.length = n ∧ RowK En.cells 3 w0 g 0 l0.toArray
theorem Srt.grown {w0 W : World} {g : Nat} {l : List En} (h : Srt w0 g l W) (n : Nat) (os : Array Obj) : Srt w0 g l (grow (W.drewN n) os) := SWK.grown h n os
theorem Srt.holds {w0 W : World} {g n : Nat} {l : List En} (h : Srt w0 g l W) (R : Sow w0 g n) (hs : l.length = n) : HoldsK En.cells 3 W g 0 l.toArray := by
  obtain ⟨l0, h1, h2⟩ := R
  exact SWK.holds h h2.hblk h2.hH (by simp [hs, h1])
theorem Srt.at {w0 W : World} {g n : Nat} {l : List En} (h : Srt w0 g l W) (R : Sow w0 g n) (hs : l.length = n) {i : Nat} {x : En} (hi : l[i]? = some x) :
    EnAt W g (i * 3) x ∧ W.frozen? ⟨g, i * 3, none⟩ = false ∧ W.frozen? ⟨g, i * 3 + 1, none⟩ = false ∧ W.frozen? ⟨g, i * 3 + 2, none⟩ = false := by
  have hh := h.holds R hs
  obtain ⟨hl, hx⟩ := List.getElem?_eq_some_iff.1 hi
  have hc := fun c hc => HoldsK.cell (i := i) (c := c) hh (by simpa using hl) hc
  have e : l.toArray[i]! = x := by rw [← hx]; simp [hl]
  obtain ⟨a0, b0⟩ := hc 0 (by decide)
  obtain ⟨a1, b1⟩ := hc 1 (by decide)
  obtain ⟨a2, b2⟩ := hc 2 (by decide)
  rw [e] at a0 a1 a2
  rw [Nat.zero_add] at a0 a1 a2 b0 b1 b2
  exact ⟨⟨a0, a1, a2⟩, b0, b1, b2⟩
theorem Srt.lt {w0 W : World} {g n : Nat} {l : List En} (h : Srt w0 g l W) (R : Sow w0 g n) : g < W.heap.size := by
  obtain ⟨l0, _, h2⟩ := R
  exact Nat.lt_of_lt_of_le h2.hblk (SWK.le h)
/-- Three stores. -/
def put3 (W : World) (g i : Nat) (x : En) : World := ((W.setCell ⟨g, i * 3, none⟩ (.string x.key)).setCell ⟨g, i * 3 + 1, none⟩ (.string x.val)).setCell ⟨g, i * 3 + 2, none⟩ (.bool x.gone)
theorem put3_eq (W : World) (g i : Nat) (x : En) : W.setCells g (0 + i * 3) (En.cells x) = put3 W g i x := by
  rw [Nat.zero_add]
  rfl
theorem set_mid (p r : List En) (x y : En) : (p ++ x :: r).set p.length y = p ++ y :: r := by
  rw [List.set_append_right _ _ (Nat.le_refl _), Nat.sub_self, List.set_cons_zero]
theorem set_far (p q r : List En) (u x y : En) : (p ++ u :: (q ++ x :: r)).set (p.length + 1 + q.length) y = p ++ u :: (q ++ y :: r) := by
  rw [List.set_append_right _ _ (by omega), show p.length + 1 + q.length - p.length = q.length + 1 by omega, List.set_cons_succ, set_mid]
theorem get_mid (p r : List En) (x : En) : (p ++ x :: r)[p.length]? = some x := by simp
theorem get_far (p q r : List En) (u x : En) : (p ++ u :: (q ++ x :: r))[p.length + 1 + q.length]? = some x := by
  rw [List.getElem?_append_right (by omega), show p.length + 1 + q.length - p.length = q.length + 1 by omega, List.getElem?_cons_succ, get_mid]
theorem swp_lists (p q r : List En) (x y : En) : swp (p ++ x :: (q ++ y :: r)).toArray p.length (p.length + 1 + q.length) = (p ++ y :: (q ++ x :: r)).toArray ∧ swp (p ++ x :: (q ++ y :: r)).toArray (p.length + 1 + q.length) p.length = (p ++ y :: (q ++ x :: r)).toArray := by
  have ex : (p ++ x :: (q ++ y :: r)).toArray[p.length]! = x := by
    rw [List.getElem!_toArray, List.getElem!_eq_getElem?_getD, get_mid]
    rfl
  have ey : (p ++ x :: (q ++ y :: r)).toArray[p.length + 1 + q.length]! = y := by
    rw [List.getElem!_toArray, List.getElem!_eq_getElem?_getD, get_far]
    rfl
  unfold swp
  rw [ex, ey]
  simp only [List.setIfInBounds_toArray]
  rw [set_mid, set_far, set_far, set_mid]
  exact ⟨rfl, rfl⟩
/-- Two entries exchanged, the first one stored first; and the second one stored first. -/
theorem Srt.swap {w0 W : World} {g n : Nat} {p q r : List En} {x y : En} (h : Srt w0 g (p ++ x :: (q ++ y :: r)) W) (R : Sow w0 g n) :
    Srt w0 g (p ++ y :: (q ++ x :: r)) (put3 (put3 W g p.length y) g (p.length + 1 + q.length) x) ∧ Srt w0 g (p ++ y :: (q ++ x :: r)) (put3 (put3 W g (p.length + 1 + q.length) x) g p.length y) := by
  obtain ⟨l0, _, h2⟩ := R
  obtain ⟨e1, e2⟩ := swp_lists p q r x y
  have ex : (p ++ x :: (q ++ y :: r)).toArray[p.length]! = x := by
    rw [List.getElem!_toArray, List.getElem!_eq_getElem?_getD, get_mid]
    rfl
  have ey : (p ++ x :: (q ++ y :: r)).toArray[p.length + 1 + q.length]! = y := by
    rw [List.getElem!_toArray, List.getElem!_eq_getElem?_getD, get_far]
    rfl
  have s1 := SWK.swap h h2.hk h2.hblk p.length (p.length + 1 + q.length) (by simp) (by simp; omega)
  have s2 := SWK.swap h h2.hk h2.hblk (p.length + 1 + q.length) p.length (by simp; omega) (by simp)
  rw [ex, ey, put3_eq, put3_eq] at s1 s2
  rw [e1] at s1
  rw [e2] at s2
  exact ⟨s1, s2⟩
theorem Srt.drew {w0 W : World} {g : Nat} {l : List En} (h : Srt w0 g l W) : Srt w0 g l W.drew := SWK.drew h
end Go.Proofs.Ythglldnhffkefaa
