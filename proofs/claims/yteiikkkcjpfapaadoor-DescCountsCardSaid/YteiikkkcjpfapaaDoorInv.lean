/- A region that draws its order, by what stays true in whatever order its operations come up. No condition on the program. -/
import Derived.OrdersHeld
import Derived.WalkKit
import Derived.KernelRfl
namespace Go.Takes
open Go

def unl (l : Array Bool) : Nat := l.toList.countP (fun b => !b)
theorem unl_set {l : Array Bool} {i : Nat} (h : l.getD i true = false) : unl (l.setIfInBounds i true) + 1 = unl l := by
  have hi : i < l.size := by
    apply Classical.byContradiction
    intro hn
    rw [Array.getD_eq_getD_getElem?, Array.getElem?_eq_none (by omega)] at h
    cases h
  have hv : l[i] = false := by
    rw [Array.getD_eq_getD_getElem?, Array.getElem?_eq_getElem hi] at h
    exact h
  unfold unl
  rw [Array.toList_setIfInBounds]
  have hl : l.toList[i]'(by simpa using hi) = false := by simpa using hv
  have hp : 0 < l.toList.countP (fun b => !b) := List.countP_pos_iff.2 ⟨false, by rw [← hl]; exact List.getElem_mem _, rfl⟩
  rw [List.countP_set (by simpa using hi), hl]
  show List.countP (fun b => !b) l.toList - 1 + 0 + 1 = _
  omega

def forward (ops : Array Oper) : Bool := (List.range ops.size).all fun i => ((ops[i]?).map fun o => o.after.all fun e => !Region.binds .any e || decide (e.on < i)).getD true

theorem all_listed {ops : Array Oper} (hf : forward ops = true) {l : Array Bool} (hr : Region.ready .any ops l = []) (hl : l.size = ops.size) : ∀ i, i < ops.size → l.getD i true = true := by
  intro i
  induction i using Nat.strongRecOn with
  | ind i ih =>
    intro hi
    apply Classical.byContradiction
    intro hn
    have hn' : l.getD i true = false := by simpa using hn
    have : i ∈ Region.ready .any ops l := by
      refine mem_ready.2 ⟨hn', ops[i], Array.getElem?_eq_getElem hi, fun e he hb => ?_⟩
      have h1 := List.all_eq_true.1 hf i (List.mem_range.2 hi)
      rw [Array.getElem?_eq_getElem hi] at h1
      have h2 := Array.all_eq_true_iff_forall_mem.1 h1 e he
      have hlt : e.on < i := by simpa [hb] using h2
      have h3 := ih e.on hlt (by omega)
      rw [Array.getD_eq_getD_getElem?, Array.getElem?_eq_getElem (by omega)] at h3 ⊢
      exact h3
    rw [hr] at this
    cases this

section
variable {P : Program} {ops : Array Oper} {Q : Exit → Act → World → Prop}
theorem inv_any (Inv : (Nat → Bool) → Act → World → Prop)
    (hstep : ∀ (L : Nat → Bool) (a : Act) (w : World) (i : Nat) (o : Oper), ops[i]? = some o → L i = false → (∀ e ∈ o.after, Region.binds .any e = true → L e.on = true) → Inv L a w →
      if Region.wanted o (yielded ops a.tmps) = true then o.wp P a w (fun a' w' => Inv (fun j => j == i || L j) a' w') Q else Inv (fun j => j == i || L j) (a.put o.dst undef) w)
    (hend : ∀ (L : Nat → Bool) (a : Act) (w : World), (∀ i, i < ops.size → L i = true) → Inv L a w → Q .normal a w) (hf : forward ops = true) :
    ∀ (fuel : Nat) (l : Array Bool) (a : Act) (w : World), l.size = ops.size → unl l ≤ fuel → Inv (fun j => l.getD j true && decide (j < ops.size)) a w → wpAny P .any ops Q fuel l a w := by
  have fin : ∀ (l : Array Bool) (a : Act) (w : World), l.size = ops.size → Inv (fun j => l.getD j true && decide (j < ops.size)) a w → Region.ready .any ops l = [] → Q .normal a w := fun l a w hl hI hr =>
    hend _ a w (fun i hi => by simp only [Bool.and_eq_true, decide_eq_true_eq]; exact ⟨all_listed hf hr hl i hi, hi⟩) hI
  intro fuel
  induction fuel with
  | zero =>
    intro l a w hl hu hI
    have hr : Region.ready .any ops l = [] := by
      apply List.eq_nil_iff_forall_not_mem.2
      intro i hi
      have := unl_set (mem_ready.1 hi).1
      omega
    exact ⟨hr, fin l a w hl hI hr⟩
  | succ fuel ih =>
    intro l a w hl hu hI
    refine ⟨fin l a w hl hI, fun i hi => ?_⟩
    obtain ⟨h1, o, ho, hd⟩ := mem_ready.1 hi
    have hlt : i < ops.size := (Array.getElem?_eq_some_iff.1 ho).1
    have hset : ∀ (a' : Act) (w' : World), Inv (fun j => j == i || (l.getD j true && decide (j < ops.size))) a' w' → wpAny P .any ops Q fuel (l.setIfInBounds i true) a' w' := fun a' w' h => by
      refine ih _ a' w' (by simpa using hl) (by have := unl_set h1; omega) ?_
      have e : (fun j => (l.setIfInBounds i true).getD j true && decide (j < ops.size)) = fun j => j == i || (l.getD j true && decide (j < ops.size)) := by
        funext j
        by_cases hj : j = i
        · subst hj
          simp [hlt, Array.getD_eq_getD_getElem?, hl]
        · rw [getD_set_ne true (Ne.symm hj)]
          simp [hj]
      rw [e]
      exact h
    have hs := hstep _ a w i o ho (by simp [h1]) (fun e he hb => by
      have h2 := hd e he hb
      have h3 : e.on < l.size := by
        apply Classical.byContradiction
        intro hn
        rw [Array.getD_eq_getD_getElem?, Array.getElem?_eq_none (by omega)] at h2
        cases h2
      rw [Array.getD_eq_getD_getElem?, Array.getElem?_eq_getElem h3] at h2 ⊢
      simp only [Bool.and_eq_true, decide_eq_true_eq]
      exact ⟨h2, by omega⟩) hI
    unfold wpOp
    simp only [ho]
    split
    · rename_i hw
      rw [if_pos hw] at hs
      exact .inl (Oper.wp_mono hset hs)
    · rename_i hw
      rw [if_neg hw] at hs
      exact hset _ _ hs

theorem wp_region_inv {id : Nat} {a : Act} {w : World} (hm : P.follows .mixedOrders = true) (Inv : (Nat → Bool) → Act → World → Prop) (h0 : Inv (fun _ => false) a w.drew)
    (hstep : ∀ (L : Nat → Bool) (a : Act) (w : World) (i : Nat) (o : Oper), ops[i]? = some o → L i = false → (∀ e ∈ o.after, Region.binds .any e = true → L e.on = true) → Inv L a w →
      if Region.wanted o (yielded ops a.tmps) = true then o.wp P a w (fun a' w' => Inv (fun j => j == i || L j) a' w') Q else Inv (fun j => j == i || L j) (a.put o.dst undef) w)
    (hend : ∀ (L : Nat → Bool) (a : Act) (w : World), (∀ i, i < ops.size → L i = true) → Inv L a w → Q .normal a w) (hf : forward ops = true) : (Code.region id ops true).wp P Q a w := by
  refine wp_region_any hm (inv_any Inv hstep hend hf ops.size _ a _ (by simp) ?_ ?_)
  · unfold unl
    exact Nat.le_trans List.countP_le_length (by simp)
  · have e : (fun j => (Array.replicate ops.size false).getD j true && decide (j < ops.size)) = fun _ => false := by
      funext j
      by_cases hj : j < ops.size
      · simp [Array.getD_eq_getD_getElem?, hj]
      · simp [hj]
    rw [e]
    exact h0
end
end Go.Takes
