/- A region that draws its order, by what stays true in whatever order its operations come up. No condition on the program. -/
import Derived.OrdersHeld
import Derived.WalkKit
import Derived.KernelRfl
import Derived.Deep.RegionHeld
import Derived.WalkLawsBesides
import Derived.Laws.IdiomCopy
import Derived.Below
namespace Go.Takes
open Go

def unl (l : Array Bool) : Nat := l.toList.countP (fun b => !b)
theorem unl_set {l : Array Bool} {i : Nat} (h : l.getD i true = false) : unl (l.setIfInBounds i true) + 1 = unl l := by
  have hi : i < l.size := by
    apply Classical.byContradiction
    intro hn
    rw [Array.getD_eq_getD_getElem?, Array.getElem?_eq_none (by omega)] at h
    cases h
  have hv : l[i] = false := by
    rw [Array.getD_eq_getD_getElem?, Array.getElem?_eq_getElem hi] at h
    exact h
  unfold unl
  rw [Array.toList_setIfInBounds]
  have hl : l.toList[i]'(by simpa using hi) = false := by simpa using hv
  have hp : 0 < l.toList.countP (fun b => !b) := List.countP_pos_iff.2 ⟨false, by rw [← hl]; exact List.getElem_mem _, rfl⟩
  rw [List.countP_set (by simpa using hi), hl]
  show List.countP (fun b => !b) l.toList - 1 + 0 + 1 = _
  omega

def forward (ops : Array Oper) : Bool := (List.range ops.size).all fun i => ((ops[i]?).map fun o => o.after.all fun e => !Region.binds .any e || decide (e.on < i)).getD true

theorem all_listed {ops : Array Oper} (hf : forward ops = true) {l : Array Bool} (hr : Region.ready .any ops l = []) (hl : l.size = ops.size) : ∀ i, i < ops.size → l.getD i true = true := by
  intro i
  induction i using Nat.strongRecOn with
  | ind i ih =>
    intro hi
    apply Classical.byContradiction
    intro hn
    have hn' : l.getD i true = false := by simpa using hn
    have : i ∈ Region.ready .any ops l := by
      refine mem_ready.2 ⟨hn', ops[i], Array.getElem?_eq_getElem hi, fun e he hb => ?_⟩
      have h1 := List.all_eq_true.1 hf i (List.mem_range.2 hi)
      rw [Array.getElem?_eq_getElem hi] at h1
      have h2 := Array.all_eq_true_iff_forall_mem.1 h1 e he
      have hlt : e.on < i := by simpa [hb] using h2
      have h3 := ih e.on hlt (by omega)
      rw [Array.getD_eq_getD_getElem?, Array.getElem?_eq_getElem (by omega)] at h3 ⊢
      exact h3
    rw [hr] at this
    cases this

section
variable {P : Program} {ops : Array Oper} {Q : Exit → Act → World → Prop}
theorem inv_any (Inv : (Nat → Bool) → Act → World → Prop)
    (hstep : ∀ (L : Nat → Bool) (a : Act) (w : World) (i : Nat) (o : Oper), ops[i]? = some o → L i = false → (∀ e ∈ o.after, Region.binds .any e = true → L e.on = true) → Inv L a w →
      if Region.wanted o (yielded ops a.tmps) = true then o.wp P a w (fun a' w' => Inv (fun j => j == i || L j) a' w') Q else Inv (fun j => j == i || L j) (a.put o.dst undef) w)
    (hend : ∀ (L : Nat → Bool) (a : Act) (w : World), (∀ i, i < ops.size → L i = true) → Inv L a w → Q .normal a w) (hf : forward ops = true) :
    ∀ (fuel : Nat) (l : Array Bool) (a : Act) (w : World), l.size = ops.size → unl l ≤ fuel → Inv (fun j => l.getD j true && decide (j < ops.size)) a w → wpAny P .any ops Q fuel l a w := by
  have fin : ∀ (l : Array Bool) (a : Act) (w : World), l.size = ops.size → Inv (fun j => l.getD j true && decide (j < ops.size)) a w → Region.ready .any ops l = [] → Q .normal a w := fun l a w hl hI hr =>
    hend _ a w (fun i hi => by simp only [Bool.and_eq_true, decide_eq_true_eq]; exact ⟨all_listed hf hr hl i hi, hi⟩) hI
  intro fuel
  induction fuel with
  | zero =>
    intro l a w hl hu hI
    have hr : Region.ready .any ops l = [] := by
      apply List.eq_nil_iff_forall_not_mem.2
      intro i hi
      have := unl_set (mem_ready.1 hi).1
      omega
    exact ⟨hr, fin l a w hl hI hr⟩
  | succ fuel ih =>
    intro l a w hl hu hI
    refine ⟨fin l a w hl hI, fun i hi => ?_⟩
    obtain ⟨h1, o, ho, hd⟩ := mem_ready.1 hi
    have hlt : i < ops.size := (Array.getElem?_eq_some_iff.1 ho).1
    have hset : ∀ (a' : Act) (w' : World), Inv (fun j => j == i || (l.getD j true && decide (j < ops.size))) a' w' → wpAny P .any ops Q fuel (l.setIfInBounds i true) a' w' := fun a' w' h => by
      refine ih _ a' w' (by simpa using hl) (by have := unl_set h1; omega) ?_
      have e : (fun j => (l.setIfInBounds i true).getD j true && decide (j < ops.size)) = fun j => j == i || (l.getD j true && decide (j < ops.size)) := by
        funext j
        by_cases hj : j = i
        · subst hj
          simp [hlt, Array.getD_eq_getD_getElem?, hl]
        · rw [getD_set_ne true (Ne.symm hj)]
          simp [hj]
      rw [e]
      exact h
    have hs := hstep _ a w i o ho (by simp [h1]) (fun e he hb => by
      have h2 := hd e he hb
      have h3 : e.on < l.size := by
        apply Classical.byContradiction
        intro hn
        rw [Array.getD_eq_getD_getElem?, Array.getElem?_eq_none (by omega)] at h2
        cases h2
      rw [Array.getD_eq_getD_getElem?, Array.getElem?_eq_getElem h3] at h2 ⊢
      simp only [Bool.and_eq_true, decide_eq_true_eq]
      exact ⟨h2, by omega⟩) hI
    unfold wpOp
    simp only [ho]
    split
    · rename_i hw
      rw [if_pos hw] at hs
      exact .inl (Oper.wp_mono hset hs)
    · rename_i hw
      rw [if_neg hw] at hs
      exact hset _ _ hs

theorem wp_region_inv {id : Nat} {a : Act} {w : World} (hm : P.follows .mixedOrders = true) (Inv : (Nat → Bool) → Act → World → Prop) (h0 : Inv (fun _ => false) a w.drew)
    (hstep : ∀ (L : Nat → Bool) (a : Act) (w : World) (i : Nat) (o : Oper), ops[i]? = some o → L i = false → (∀ e ∈ o.after, Region.binds .any e = true → L e.on = true) → Inv L a w →
      if Region.wanted o (yielded ops a.tmps) = true then o.wp P a w (fun a' w' => Inv (fun j => j == i || L j) a' w') Q else Inv (fun j => j == i || L j) (a.put o.dst undef) w)
    (hend : ∀ (L : Nat → Bool) (a : Act) (w : World), (∀ i, i < ops.size → L i = true) → Inv L a w → Q .normal a w) (hf : forward ops = true) : (Code.region id ops true).wp P Q a w := by
  refine wp_region_any hm (inv_any Inv hstep hend hf ops.size _ a _ (by simp) ?_ ?_)
  · unfold unl
    exact Nat.le_trans List.countP_le_length (by simp)
  · have e : (fun j => (Array.replicate ops.size false).getD j true && decide (j < ops.size)) = fun _ => false := by
      funext j
      by_cases hj : j < ops.size
      · simp [Array.getD_eq_getD_getElem?, hj]
      · simp [hj]
    rw [e]
    exact h0
end
end Go.Takes
/- A region that draws its order: operations that only reckon, or of which a table tells what they yield, are taken first, many at one stroke. No condition on the program. -/
namespace Go.Takes
open Go

/-- What a table tells of operation number i: a load of the cell at p; a comparison of two values. -/
inductive Ent where
  | load (i : Nat) (t : TypeId) (p : Addr) (v : Value)
  | cmp (i : Nat) (op : BinOp) (t : TypeId) (x y : Value) (v : Value)
def Ent.Ok (P : Program) (S : World → Prop) : Ent → Prop
  | .load _ t p v => ∀ w, S w → (Instr.loadAt t (.pointer (some p))).run P w = .ok v w
  | .cmp _ op t x y v => ∀ xo yo w, (eqGuard op t xo yo x y).run P w = .ok () w ∧ (binOp op t x y).run P w = .ok v w
def AllOk (P : Program) (S : World → Prop) : List Ent → Prop
  | [] => True
  | e :: r => e.Ok P S ∧ AllOk P S r

/-- What an operation yields, and what must be equal for that. -/
def told (ρ : Operand → Value) (i : Nat) (o : Oper) : List Ent → Option (Value × List (Value × Value))
  | [] => none
  | .load j t p v :: r => if i == j then (match o.op with | .load t' x => if t' == t then some (v, [(ρ x, .pointer (some p))]) else none | _ => none) else told ρ i o r
  | .cmp j op t x y v :: r => if i == j then (match o.op with | .binOp op' t' x' y' _ => if op' == op && t' == t then some (v, [(ρ x', x), (ρ y', y)]) else none | _ => none) else told ρ i o r

def fieldOf (P : Program) (s : TypeId) (f : Nat) : Option Nat :=
  match P.underlying s with
  | some (.struct fs) => match fs[f]? with
    | some fd => match P.info? fd.type with
      | some i => if i.size == 0 then none else some fd.offset
      | none => none
    | none => none
  | _ => none

def isBool (P : Program) (t : TypeId) : Bool :=
  match P.underlying t with
  | some .bool => true
  | _ => false

def val (P : Program) (ρ : Operand → Value) (o : Oper) : Option Value :=
  match o.op with
  | .move x => some (ρ x)
  | .assign x => some (ρ x)
  | .pick c x y => match ρ c with
    | .bool true => some (ρ x)
    | .bool false => some (ρ y)
    | _ => none
  | .unOp .not _ x => match ρ x with
    | .bool b => some (.bool (!b))
    | _ => none
  | .unOp .neg _ x => match ρ x with
    | .int k n => some (.int k (k.wrap (-n)))
    | _ => none
  | .binOp .eql t x y _ => match ρ x, ρ y with
    | .int k m, .int k' n => if k = k' then some (.bool (m == n)) else none
    | .bool m, .bool n => if isBool P t then some (.bool (m == n)) else none
    | _, _ => none
  | .fieldAddr s x f => match ρ x with
    | .pointer (some p) => (fieldOf P s f).map fun k => .pointer (some (p.add k))
    | _ => none
  | _ => none

theorem val_ok {P : Program} {ρ : Operand → Value} {o : Oper} {v : Value} (h : val P ρ o = some v) (w : World) : (execOp ρ o).run P w = .ok (.value v) w := by
  unfold val at h
  split at h
  · rename_i x ho; cases h; simp [execOp, ho, go_sem]
  · rename_i x ho; cases h; simp [execOp, ho, go_sem]
  · rename_i c x y ho
    split at h
    · rename_i hc; cases h; simp [execOp, ho, hc, go_sem]
    · rename_i hc; cases h; simp [execOp, ho, hc, go_sem]
    · cases h
  · rename_i t x ho
    split at h
    · rename_i b hb; cases h; simp [execOp, ho, hb, go_sem]
    · cases h
  · rename_i t x ho
    split at h
    · rename_i k n hb; cases h; simp [execOp, ho, hb, go_sem]
    · cases h
  · rename_i t x y t2 ho
    split at h
    · rename_i k m k' n hx hy
      split at h
      · rename_i hk
        cases h
        subst hk
        simp [execOp, ho, hx, hy, eqGuard, go_sem]
      · cases h
    · rename_i m n hx hy
      split at h
      · rename_i hb
        cases h
        unfold isBool at hb
        split at hb
        · rename_i hu
          have := run_eql_bool (P := P) (w := w) t m n hu
          simp [execOp, ho, hx, hy, eqGuard, this]
        · cases hb
      · cases h
    · cases h
  · rename_i s x f ho
    split at h
    · rename_i p hp
      unfold fieldOf at h
      split at h
      · rename_i fs hs
        split at h
        · rename_i fd hf
          split at h
          · rename_i i hi
            split at h
            · cases h
            · rename_i hz
              cases h
              have hz' : ¬ i.size = 0 := by simpa using hz
              simp [execOp, ho, hp, Instr.fieldAt, Instr.sureAddr, fieldPlace, run_underlying hs, hf, sizeOf, typeInfo, hi, hz', go_sem]
          · cases h
        · cases h
      · cases h
    · cases h
  · cases h

theorem told_ok {P : Program} {S : World → Prop} {ρ : Operand → Value} {i : Nat} {o : Oper} {v : Value} {cs : List (Value × Value)} : ∀ (tab : List Ent), AllOk P S tab → told ρ i o tab = some (v, cs) → (∀ c ∈ cs, c.1 = c.2) → ∀ w, S w → (execOp ρ o).run P w = .ok (.value v) w := by
  intro tab
  induction tab with
  | nil => intro _ h; cases h
  | cons e r ih =>
    intro ha h hc w hw
    obtain ⟨h1, h2⟩ := ha
    cases e with
    | load j t p v' =>
      simp only [told] at h
      split at h
      · split at h
        · rename_i t' x ho
          split at h
          · rename_i ht
            cases h
            have hx : ρ x = .pointer (some p) := hc _ (List.mem_singleton.2 rfl)
            have ht' : t' = t := by simpa using ht
            subst ht'
            simp only [Ent.Ok] at h1
            have g := h1 w hw
            simp [execOp, ho, hx, g]
          · cases h
        · cases h
      · exact ih h2 h hc w hw
    | cmp j op t x y v' =>
      simp only [told] at h
      split at h
      · split at h
        · rename_i op' t' x' y' t2 ho
          split at h
          · rename_i ht
            cases h
            have hx : ρ x' = x := hc (ρ x', x) (by simp)
            have hy : ρ y' = y := hc (ρ y', y) (by simp)
            have ht' : op' = op ∧ t' = t := by simpa using ht
            obtain ⟨rfl, rfl⟩ := ht'
            obtain ⟨g1, g2⟩ := h1 x' y' w
            simp [execOp, ho, hx, hy, g1, g2]
          · cases h
        · cases h
      · exact ih h2 h hc w hw

/-- One operation that may come up now, and may be taken first: what is listed and the frame behind it. -/
def step (P : Program) (tab : List Ent) (ops : Array Oper) (st : Array Bool × Act × List (Value × Value)) (i : Nat) : Option (Array Bool × Act × List (Value × Value)) :=
  match ops[i]? with
  | none => none
  | some o =>
    if !st.1.getD i true && o.after.all (fun e => !Region.binds .any e || st.1.getD e.on false) && Region.free .any ops st.1 i then
      if Region.wanted o (yielded ops st.2.1.tmps) then
        match told st.2.1.eval i o tab with
        | some (v, cs) => some (st.1.setIfInBounds i true, st.2.1.put o.dst v, cs ++ st.2.2)
        | none => match val P st.2.1.eval o with
          | some v => some (st.1.setIfInBounds i true, st.2.1.put o.dst v, st.2.2)
          | none => none
      else some (st.1.setIfInBounds i true, st.2.1.put o.dst undef, st.2.2)
    else none
def run (P : Program) (tab : List Ent) (ops : Array Oper) : List Nat → (Array Bool × Act × List (Value × Value)) → Option (Array Bool × Act × List (Value × Value))
  | [], st => some st
  | i :: r, st => (step P tab ops st i).bind (run P tab ops r)

section
variable {P : Program} {ops : Array Oper} {Q : Exit → Act → World → Prop} {S : World → Prop} {tab : List Ent} {cs : List (Value × Value)}

theorem step_more {st st' : Array Bool × Act × List (Value × Value)} {i : Nat} (h : step P tab ops st i = some st') : ∀ c, c ∈ st.2.2 → c ∈ st'.2.2 := by
  unfold step at h
  split at h
  · cases h
  · split at h
    · split at h
      · split at h
        · cases h; exact fun c hc => List.mem_append_right _ hc
        · split at h
          · cases h; exact fun c hc => hc
          · cases h
      · cases h; exact fun c hc => hc
    · cases h
theorem run_more : ∀ (is : List Nat) {st st' : Array Bool × Act × List (Value × Value)}, run P tab ops is st = some st' → ∀ c, c ∈ st.2.2 → c ∈ st'.2.2
  | [], st, st', h => by cases h; exact fun c hc => hc
  | i :: r, st, st', h => by
    unfold run at h
    obtain ⟨s1, h1, h2⟩ := Option.bind_eq_some_iff.1 h
    exact fun c hc => run_more r h2 c (step_more h1 c hc)

theorem run_ok (hs : Region.noSelect ops = true) (hQ : ∀ d v c a w, Q (.panic c) (a.put d v) w → Q (.panic c) a w) (hT : AllOk P S tab) (hc : ∀ c : Value × Value, c ∈ cs → c.1 = c.2) {w : World} (hS : S w) (fuel : Nat) :
    ∀ (is : List Nat) (st : Array Bool × Act × List (Value × Value)) (l : Array Bool) (a : Act), run P tab ops is st = some (l, a, cs) → wpAnyH P .any ops Q S fuel l a w → wpAnyH P .any ops Q S (fuel + is.length) st.1 st.2.1 w
  | [], st, l, a, h, hw => by cases h; exact hw
  | i :: r, st, l, a, h, hw => by
    unfold run at h
    obtain ⟨s1, h1, h2⟩ := Option.bind_eq_some_iff.1 h
    have ih := run_ok hs hQ hT hc hS fuel r s1 l a h2 hw
    have hm := run_more r h2
    show wpAnyH P .any ops Q S ((fuel + r.length) + 1) st.1 st.2.1 w
    unfold step at h1
    split at h1
    · cases h1
    · rename_i o ho
      split at h1
      · rename_i hg
        simp only [Bool.and_eq_true] at hg
        obtain ⟨⟨g1, g2⟩, g3⟩ := hg
        have hr : (Region.ready .any ops st.1).contains i = true := by
          rw [List.contains_iff_mem]
          refine mem_ready.2 ⟨by simpa using g1, o, ho, fun e he hb => ?_⟩
          have := Array.all_eq_true_iff_forall_mem.1 g2 e he
          simpa [hb] using this
        have key : ∀ v, YieldsIf P ops S o v st.2.1 → wpAnyH P .any ops Q S (fuel + r.length) (st.1.setIfInBounds i true) (st.2.1.put o.dst v) w → wpAnyH P .any ops Q S ((fuel + r.length) + 1) st.1 st.2.1 w := fun v hy hh =>
          wpAnyH_take ho hs g3 hr (hQ _ _) hy hS hh
        split at h1
        · rename_i hwant
          split at h1
          · rename_i v cs' hv
            cases h1
            exact key v (.inl ⟨hwant, told_ok tab hT hv (fun c hc' => hc c (hm c (List.mem_append_left _ hc')))⟩) ih
          · split at h1
            · rename_i v hv
              cases h1
              exact key v (.inl ⟨hwant, fun w _ => val_ok hv w⟩) ih
            · cases h1
        · rename_i hwant
          cases h1
          exact key undef (.inr ⟨by simpa using hwant, rfl⟩) ih
      · cases h1

theorem all_eq : ∀ {cs : List (Value × Value)}, cs.map (·.1) = cs.map (·.2) → ∀ c, c ∈ cs → c.1 = c.2
  | [], _, c, h => by cases h
  | x :: r, hc, c, h => by
    simp only [List.map_cons, List.cons.injEq] at hc
    rcases List.mem_cons.1 h with rfl | h
    · exact hc.1
    · exact all_eq hc.2 c h

/-- What is listed and the frame behind many. -/
def runD (P : Program) (tab : List Ent) (ops : Array Oper) (is : List Nat) (l : Array Bool) (a : Act) : Array Bool × Act × List (Value × Value) := (run P tab ops is (l, a, [])).getD (l, a, [])
/-- Many at one stroke. 'hok', 'hc', 'hn' are for the kernel. -/
theorem takes (is : List Nat) (tab : List Ent) (fuel : Nat) {n : Nat} {l0 : Array Bool} {a0 : Act} {w : World} (hT : AllOk P S tab) (hs : Region.noSelect ops = true) (hQ : ∀ d v c a w, Q (.panic c) (a.put d v) w → Q (.panic c) a w)
    (hn : n = fuel + is.length) (hok : (run P tab ops is (l0, a0, [])).isSome = true) (hc : (runD P tab ops is l0 a0).2.2.map (·.1) = (runD P tab ops is l0 a0).2.2.map (·.2)) (hS : S w)
    (h : wpAnyH P .any ops Q S fuel (runD P tab ops is l0 a0).1 (runD P tab ops is l0 a0).2.1 w) : wpAnyH P .any ops Q S n l0 a0 w := by
  subst hn
  obtain ⟨⟨l, a, cs⟩, e⟩ := Option.isSome_iff_exists.1 hok
  have hd : runD P tab ops is l0 a0 = (l, a, cs) := by unfold runD; rw [e]; rfl
  rw [hd] at hc h
  exact run_ok hs hQ hT (all_eq hc) hS fuel is (l0, a0, []) l a e h

/-- A call of a Go function, where nothing else may come up. -/
theorem call (i fuel : Nat) {o : Oper} {n : Nat} {l : Array Bool} {a : Act} {w : World} {f : FuncId} {args : Array Value} {R : Ending → World → Prop} (hn : n = fuel + 1) (ho : ops[i]? = some o) (hr : Region.ready .any ops l = [i])
    (hwant : Region.wanted o (yielded ops a.tmps) = true) (hrun : (execOp a.eval o).run P w = .ok (.enter f args) w) (hcall : Calls P f args w R)
    (hR : ∀ e w', R e w' → ∃ v, e = .returned v ∧ S w' ∧ wpAnyH P .any ops Q S fuel (l.setIfInBounds i true) (a.put o.dst v) w') : wpAnyH P .any ops Q S n l a w := by
  subst hn
  refine wpAnyH_all hr (by simp) fun j hj => ?_
  rw [List.mem_singleton] at hj
  subst hj
  unfold wpOp
  simp only [ho, hwant, if_true]
  refine .inl ?_
  unfold Oper.wp
  rw [hrun]
  simp only [Oper.upon]
  refine hcall.mono fun e w' he => ?_
  obtain ⟨v, rfl, h1, h2⟩ := hR e w' he
  exact ⟨h1, h2⟩
end
end Go.Takes
/- A region that draws its order, once for all orders: operations that reckon, load, compare, call, make blocks, store into such blocks or into blocks named ahead. What every order leaves is one and the same, but for the numbers of the new blocks. No condition on the program. -/
namespace Go.Free
open Go Go.RowKit

inductive Tgt where
  | own (i : Nat)
  | old (p : Nat)
def Tgt.same : Tgt → Tgt → Bool
  | .own i, .own j => Nat.beq i j
  | .old i, .old j => Nat.beq i j
  | _, _ => false
theorem Tgt.same_iff {g h : Tgt} : g.same h = true ↔ g = h := by
  cases g <;> cases h <;> simp [Tgt.same]

/-- What a table tells of an operation. -/
inductive Ent where
  | load (t : TypeId) (p : Addr) (v : Value)
  | cmp (op : BinOp) (t : TypeId) (x y : Value) (v : Value)
  | call (f : FuncId) (args : List Value) (v : Value)
  | make (t : TypeId) (ks : List Nat) (ps : List Value) (v : Value)
  | new (t : TypeId) (zs : List Value)
  | row (t e : TypeId) (n : Nat) (ks : List Nat) (ps : List Value) (zs : List Value)
  | put (t : TypeId) (g : Tgt) (x : Value) (vs : List Value)
  | gen (xs : List Value) (v : Value)

/-- A block that holds these cells, none of them frozen. -/
def Holds (b : Nat) (vs : List Value) (w : World) : Prop := ∀ k v, vs[k]? = some v → w.cell? ⟨b, k, none⟩ = some v ∧ w.frozen? ⟨b, k, none⟩ = false

def zipped (ks : List Nat) (ps : List Value) : Array (Nat × Value) := (ks.zip ps).toArray

def Ent.Ok (P : Program) (S : World → Prop) (oo : Option Oper) : Ent → Prop
  | .load t p v => ∀ w, S w → (Instr.loadAt t (.pointer (some p))).run P w = .ok v w
  | .cmp op t x y v => ∀ xo yo w, (eqGuard op t xo yo x y).run P w = .ok () w ∧ (binOp op t x y).run P w = .ok v w
  | .call f args v => (∀ as w, (callFunc f as).run P w = .ok (.enter f as) w) ∧ ∀ w, S w → Calls P f args.toArray w fun e w' => e = .returned v ∧ Below w.heap.size w w'
  | .make t ks ps v => ∀ w, (Instr.build t (zipped ks ps)).run P w = .ok v w
  | .new t zs => ∀ w, (Instr.alloc t true (.tuple #[])).run P w = .ok (.pointer (some ⟨w.heap.size, 0, none⟩)) (w.alloc (.cells zs.toArray t))
  | .row t e n ks ps zs => ∀ w, (Instr.buildSlice t n (zipped ks ps)).run P w = .ok (.slice (some ⟨w.heap.size, 0, none⟩) n n) (w.alloc (.cells zs.toArray e))
  | .put t _ x vs => ∀ b w zs, zs.length = vs.length → Holds b zs w → (Instr.storeAt t (.pointer (some ⟨b, 0, none⟩)) x).run P w = .ok () (w.setCells b 0 vs)
  | .gen xs v => ∀ o, oo = some o → ∀ ρ : Operand → Value, o.op.operands.toList.map ρ = xs → ∀ w, S w → (execOp ρ o).run P w = .ok (.value v) w

def look : List (Nat × Ent) → Nat → Option Ent
  | [], _ => none
  | (j, e) :: r, i => if Nat.beq j i then some e else look r i
def AllOk (P : Program) (S : World → Prop) (ops : Array Oper) : List (Nat × Ent) → Prop
  | [] => True
  | (i, e) :: r => e.Ok P S ops[i]? ∧ AllOk P S ops r
theorem AllOk.get {P : Program} {S : World → Prop} {ops : Array Oper} : ∀ {tab : List (Nat × Ent)}, AllOk P S ops tab → ∀ {i e}, look tab i = some e → e.Ok P S ops[i]?
  | [], _, i, e, h => by cases h
  | (j, e') :: r, ha, i, e, h => by
    unfold look at h
    split at h
    · rename_i hj
      have : j = i := by simpa using hj
      subst this
      cases h
      exact ha.1
    · exact ha.2.get h

def blk (om β : Nat → Nat) : Tgt → Nat
  | .own i => β i
  | .old p => om p

/-- What an operation yields, and what must be equal for that. -/
def res (P : Program) (om : Nat → Nat) (tab : List (Nat × Ent)) (β : Nat → Nat) (ρ : Operand → Value) (i : Nat) (o : Oper) : Option (Value × List (Value × Value)) :=
  match look tab i with
  | none => (Takes.val P ρ o).map fun v => (v, [])
  | some (.load t p v) => match o.op with
    | .load t' x => if t' = t then some (v, [(ρ x, .pointer (some p))]) else none
    | _ => none
  | some (.cmp op t x y v) => match o.op with
    | .binOp op' t' x' y' _ => if op' = op ∧ t' = t then some (v, [(ρ x', x), (ρ y', y)]) else none
    | _ => none
  | some (.call f args v) => match o.op with
    | .call c => match c.callee with
      | .value (.func g) => if g = f then some (v, [(.agg (c.args.map ρ), .agg args.toArray)]) else none
      | _ => none
    | _ => none
  | some (.make t ks ps v) => match o.op with
    | .build t' qs => if t' = t ∧ qs.toList.map (·.1) = ks then some (v, [(.agg (qs.toList.map fun q => ρ q.2).toArray, .agg ps.toArray)]) else none
    | _ => none
  | some (.new t _) => match o.op with
    | .alloc t' => if t' = t then some (.pointer (some ⟨β i, 0, none⟩), []) else none
    | _ => none
  | some (.row t _ n ks ps _) => match o.op with
    | .buildSlice t' n' qs => if t' = t ∧ n' = n ∧ qs.toList.map (·.1) = ks then some (.slice (some ⟨β i, 0, none⟩) n n, [(.agg (qs.toList.map fun q => ρ q.2).toArray, .agg ps.toArray)]) else none
    | _ => none
  | some (.put t g x _) => match o.op with
    | .store t' a y => if t' = t then some (undef, [(ρ a, .pointer (some ⟨blk om β g, 0, none⟩)), (ρ y, x)]) else none
    | _ => none
  | some (.gen xs v) => some (v, [(.agg (o.op.operands.toList.map ρ).toArray, .agg xs.toArray)])

/-- One operation in the order of the text. -/
def step (P : Program) (om : Nat → Nat) (tab : List (Nat × Ent)) (ops : Array Oper) (β : Nat → Nat) (i : Nat) (st : Act × List (Value × Value)) : Option (Act × List (Value × Value)) :=
  match ops[i]? with
  | none => none
  | some o =>
    if Region.wanted o (yielded ops st.1.tmps) then (res P om tab β st.1.eval i o).map fun r => (st.1.put o.dst r.1, r.2 ++ st.2)
    else match look tab i with
      | none => some (st.1.put o.dst undef, st.2)
      | some _ => none
def plan (P : Program) (om : Nat → Nat) (tab : List (Nat × Ent)) (ops : Array Oper) (a0 : Act) (β : Nat → Nat) : Nat → Option (Act × List (Value × Value))
  | 0 => some (a0, [])
  | n + 1 => (plan P om tab ops a0 β n).bind (step P om tab ops β n)
def planD (P : Program) (om : Nat → Nat) (tab : List (Nat × Ent)) (ops : Array Oper) (a0 : Act) (β : Nat → Nat) (n : Nat) : Act × List (Value × Value) := (plan P om tab ops a0 β n).getD (a0, [])

/-- The frame behind the region. -/
def fin (P : Program) (om : Nat → Nat) (tab : List (Nat × Ent)) (ops : Array Oper) (a0 : Act) (β : Nat → Nat) : Act := (planD P om tab ops a0 β ops.size).1

def isNew : Option Ent → Bool
  | some (.new ..) => true
  | some (.row ..) => true
  | _ => false
/-- All that the new blocks' numbers are not in. -/
def still (P : Program) (om : Nat → Nat) (tab : List (Nat × Ent)) (ops : Array Oper) (a0 : Act) (β : Nat → Nat) : List Value :=
  (List.range ops.size).map fun i => if isNew (look tab i) then undef else match (ops[i]?).bind (·.dst) with
    | some d => (fin P om tab ops a0 β).eval (.tmp d)
    | none => undef

def writers (ops : Array Oper) (d : Tmp) : List Nat := (List.range ops.size).filter fun j => match (ops[j]?).bind (·.dst) with
  | some e => Nat.beq e d
  | none => false
def waits (o : Oper) (j : Nat) : Bool := o.after.any fun e => Region.binds .any e && Nat.beq e.on j
/-- What the region must be like: each slot has one writer; who reads a slot waits for its writer, and stands behind it. -/
def formed (ops : Array Oper) (size : Nat) : Bool :=
  Takes.forward ops && Region.noSelect ops && (List.range ops.size).all fun i => match ops[i]? with
    | none => false
    | some o => (match o.dst with
        | some d => Nat.blt d size && (writers ops d).all fun j => Nat.beq j i
        | none => true) &&
      (o.looksAt ops).all fun d => (writers ops d).all fun j => Nat.blt j i && waits o j

def putsOf : List (Nat × Ent) → Tgt → Option Nat
  | [], _ => none
  | (i, .put _ h _ _) :: r, g => if g.same h then some i else putsOf r g
  | _ :: r, g => putsOf r g
/-- What operation i stores into the block g. -/
def into (tab : List (Nat × Ent)) (i : Nat) (g : Tgt) : Option (List Value) := match look tab i with
  | some (.put _ h _ vs) => if g.same h then some vs else none
  | _ => none
/-- What a block holds when the operations of L have come up. -/
def cur (tab : List (Nat × Ent)) (L : Nat → Bool) (g : Tgt) (zs : List Value) : List Value := match putsOf tab g with
  | some i => if L i then (into tab i g).getD zs else zs
  | none => zs
def newOf : Option Ent → Option (List Value)
  | some (.new _ zs) => some zs
  | some (.row _ _ _ _ _ zs) => some zs
  | _ => none
/-- The table: no block stored into twice, each store behind its block. -/
def tidy (tab : List (Nat × Ent)) (ops : Array Oper) (olds : List (Nat × List Value)) : Bool :=
  (tab.all fun x => Nat.blt x.1 ops.size && match look tab x.1 with
    | some (.put _ g _ vs) => (match putsOf tab g with
        | some i => Nat.beq i x.1
        | none => false) && (match g with
        | .own j => (match newOf (look tab j), ops[x.1]? with
          | some zs, some o => Nat.beq zs.length vs.length && waits o j
          | _, _ => false)
        | .old p => olds.any (fun y => Nat.beq y.1 p) && olds.all fun y => !Nat.beq y.1 p || Nat.beq y.2.length vs.length)
    | _ => true)

theorem look_mem : ∀ {tab : List (Nat × Ent)} {i : Nat} {e : Ent}, look tab i = some e → ∃ e', (i, e') ∈ tab
  | (j, e') :: r, i, e, h => by
    unfold look at h
    split at h
    · rename_i hj
      have : j = i := by simpa using hj
      subst this
      exact ⟨e', List.mem_cons_self ..⟩
    · obtain ⟨e2, h2⟩ := look_mem h
      exact ⟨e2, List.mem_cons_of_mem _ h2⟩
theorem tidy_lt {tab : List (Nat × Ent)} {ops : Array Oper} {olds : List (Nat × List Value)} (h : tidy tab ops olds = true) {i : Nat} {e : Ent} (hi : (i, e) ∈ tab) : i < ops.size := by
  unfold tidy at h
  rw [List.all_eq_true] at h
  have h1 := h _ hi
  simp only [Bool.and_eq_true] at h1
  simpa using h1.1
theorem puts_mem : ∀ {tab : List (Nat × Ent)} {g : Tgt} {k : Nat}, putsOf tab g = some k → ∃ e, (k, e) ∈ tab
  | (i, e) :: r, g, k, h => by
    cases e with
    | put t h' x vs =>
      unfold putsOf at h
      split at h
      · cases h
        exact ⟨_, List.mem_cons_self ..⟩
      · obtain ⟨e, he⟩ := puts_mem h
        exact ⟨e, List.mem_cons_of_mem _ he⟩
    | _ =>
      obtain ⟨e, he⟩ := puts_mem (tab := r) h
      exact ⟨e, List.mem_cons_of_mem _ he⟩
theorem tidy_put {tab : List (Nat × Ent)} {ops : Array Oper} {olds : List (Nat × List Value)} (h : tidy tab ops olds = true) {i : Nat} {t : TypeId} {g : Tgt} {x : Value} {vs : List Value} (hi : look tab i = some (.put t g x vs)) :
    putsOf tab g = some i ∧ (∀ j, g = .own j → ∃ zs o, newOf (look tab j) = some zs ∧ ops[i]? = some o ∧ zs.length = vs.length ∧ waits o j = true) ∧ (∀ p, g = .old p → (∃ zs, (p, zs) ∈ olds) ∧ ∀ zs, (p, zs) ∈ olds → zs.length = vs.length) := by
  obtain ⟨e', hm⟩ := look_mem hi
  unfold tidy at h
  rw [List.all_eq_true] at h
  have h1 := h _ hm
  simp only [hi, Bool.and_eq_true] at h1
  obtain ⟨_, h2, h3⟩ := h1
  refine ⟨?_, ?_, ?_⟩
  · split at h2
    · rename_i k hk
      have : k = i := by simpa using h2
      rw [hk, this]
    · cases h2
  · rintro j rfl
    simp only at h3
    split at h3
    · rename_i zs o hz ho
      simp only [Bool.and_eq_true] at h3
      exact ⟨zs, o, hz, ho, by simpa using h3.1, h3.2⟩
    · cases h3
  · rintro p rfl
    simp only [Bool.and_eq_true, List.any_eq_true, List.all_eq_true] at h3
    obtain ⟨⟨y, hy, hy2⟩, h5⟩ := h3
    have e : y.1 = p := by simpa using hy2
    subst e
    refine ⟨⟨y.2, hy⟩, fun zs hz => ?_⟩
    have := h5 _ hz
    simpa using this

theorem mem_writers {ops : Array Oper} {d : Tmp} {j : Nat} : j ∈ writers ops d ↔ ∃ o, ops[j]? = some o ∧ o.dst = some d := by
  unfold writers
  rw [List.mem_filter, List.mem_range]
  constructor
  · rintro ⟨h1, h2⟩
    refine ⟨ops[j], Array.getElem?_eq_getElem h1, ?_⟩
    rw [Array.getElem?_eq_getElem h1] at h2
    simp only [Option.bind_some] at h2
    split at h2
    · rename_i e he
      rw [he]
      simpa using h2
    · cases h2
  · rintro ⟨o, h1, h2⟩
    refine ⟨(Array.getElem?_eq_some_iff.1 h1).1, ?_⟩
    rw [h1]
    simp [h2]
theorem formed_op {ops : Array Oper} {size i : Nat} {o : Oper} (h : formed ops size = true) (hi : ops[i]? = some o) :
    (∀ d, o.dst = some d → d < size ∧ ∀ j ∈ writers ops d, j = i) ∧ ∀ d ∈ o.looksAt ops, ∀ j ∈ writers ops d, j < i ∧ waits o j = true := by
  unfold formed at h
  simp only [Bool.and_eq_true, List.all_eq_true, List.mem_range] at h
  have h1 := h.2 i (Array.getElem?_eq_some_iff.1 hi).1
  simp only [hi, Bool.and_eq_true, List.all_eq_true] at h1
  refine ⟨fun d hd => ?_, fun d hd j hj => ?_⟩
  · have h2 := h1.1
    simp only [hd, Bool.and_eq_true, List.all_eq_true] at h2
    exact ⟨by simpa using h2.1, fun j hj => by simpa using h2.2 j hj⟩
  · have h2 := h1.2 d hd j hj
    exact ⟨by simpa using h2.1, h2.2⟩
theorem waits_spec {o : Oper} {j : Nat} (h : waits o j = true) : ∃ e ∈ o.after, Region.binds .any e = true ∧ e.on = j := by
  unfold waits at h
  obtain ⟨e, he, h2⟩ := Array.any_eq_true'.1 h
  simp only [Bool.and_eq_true] at h2
  exact ⟨e, he, h2.1, by simpa using h2.2⟩
theorem formed_sel {ops : Array Oper} {size : Nat} (h : formed ops size = true) : Takes.forward ops = true ∧ Region.noSelect ops = true := by
  unfold formed at h
  simp only [Bool.and_eq_true] at h
  exact h.1

theorem eval_put_ne {t : Act} {o : Option Tmp} {j : Nat} {v : Value} (h : o ≠ some j) : (t.put o v).eval (.tmp j) = t.eval (.tmp j) :=
  Act.eval_put (fun d hd e => h (by rw [hd]; cases e; rfl))
theorem eval_put_eq {t : Act} {d : Nat} {v : Value} (h : d < t.tmps.size) : (t.put (some d) v).eval (.tmp d) = v := by
  simp [Act.put, Act.eval, h]
theorem size_put {t : Act} {o : Option Tmp} {v : Value} : (t.put o v).tmps.size = t.tmps.size := by cases o <;> simp [Act.put]

section
variable {P : Program} {om : Nat → Nat} {tab : List (Nat × Ent)} {ops : Array Oper} {a0 : Act} {β : Nat → Nat}

theorem plan_some (h : (plan P om tab ops a0 β ops.size).isSome = true) : ∀ k i, i + k = ops.size → ∃ st, plan P om tab ops a0 β i = some st
  | 0, i, e => by
    rw [Nat.add_zero] at e
    subst e
    exact Option.isSome_iff_exists.1 h
  | k + 1, i, e => by
    obtain ⟨st, h1⟩ := plan_some h k (i + 1) (by omega)
    unfold plan at h1
    obtain ⟨s1, h2, _⟩ := Option.bind_eq_some_iff.1 h1
    exact ⟨s1, h2⟩
/-- What the plan says of operation i. -/
theorem plan_step (h : (plan P om tab ops a0 β ops.size).isSome = true) {i : Nat} {o : Oper} (hi : ops[i]? = some o) :
    ∃ v, (planD P om tab ops a0 β (i + 1)).1 = (planD P om tab ops a0 β i).1.put o.dst v ∧ (∀ c ∈ (planD P om tab ops a0 β i).2, c ∈ (planD P om tab ops a0 β (i + 1)).2) ∧
      ((Region.wanted o (yielded ops (planD P om tab ops a0 β i).1.tmps) = true ∧ ∃ cs, res P om tab β (planD P om tab ops a0 β i).1.eval i o = some (v, cs) ∧ ∀ c ∈ cs, c ∈ (planD P om tab ops a0 β (i + 1)).2) ∨
       (Region.wanted o (yielded ops (planD P om tab ops a0 β i).1.tmps) = false ∧ look tab i = none ∧ v = undef)) := by
  have hlt : i < ops.size := (Array.getElem?_eq_some_iff.1 hi).1
  obtain ⟨st, h1⟩ := plan_some h (ops.size - i) i (by omega)
  obtain ⟨st', h2⟩ := plan_some h (ops.size - (i + 1)) (i + 1) (by omega)
  have h3 := h2
  unfold plan at h3
  rw [h1] at h3
  simp only [Option.bind_some] at h3
  unfold planD
  rw [h1, h2]
  simp only [Option.getD_some]
  unfold step at h3
  rw [hi] at h3
  simp only at h3
  split at h3
  · rename_i hw
    obtain ⟨r, hr, he⟩ := Option.map_eq_some_iff.1 h3
    subst he
    exact ⟨r.1, rfl, fun c hc => List.mem_append_right _ hc, .inl ⟨hw, r.2, hr, fun c hc => List.mem_append_left _ hc⟩⟩
  · rename_i hw
    split at h3
    · rename_i hl
      cases h3
      exact ⟨undef, rfl, fun c hc => hc, .inr ⟨by simpa using hw, hl, rfl⟩⟩
    · cases h3
theorem plan_size (h : (plan P om tab ops a0 β ops.size).isSome = true) : ∀ i, i ≤ ops.size → (planD P om tab ops a0 β i).1.tmps.size = a0.tmps.size
  | 0, _ => rfl
  | i + 1, hi => by
    obtain ⟨v, h1, _⟩ := plan_step h (Array.getElem?_eq_getElem (show i < ops.size by omega))
    rw [h1, size_put]
    exact plan_size h i (by omega)
theorem plan_defers (h : (plan P om tab ops a0 β ops.size).isSome = true) : ∀ i, i ≤ ops.size → (planD P om tab ops a0 β i).1.defers = a0.defers
  | 0, _ => rfl
  | i + 1, hi => by
    obtain ⟨v, h1, _⟩ := plan_step h (Array.getElem?_eq_getElem (show i < ops.size by omega))
    rw [h1, ← plan_defers h i (by omega)]
    cases (ops[i]'(by omega)).dst <;> rfl
theorem plan_more (h : (plan P om tab ops a0 β ops.size).isSome = true) : ∀ k i, i + k = ops.size → ∀ c ∈ (planD P om tab ops a0 β i).2, c ∈ (planD P om tab ops a0 β ops.size).2
  | 0, i, e => by
    rw [Nat.add_zero] at e
    subst e
    exact fun c hc => hc
  | k + 1, i, e => fun c hc => by
    obtain ⟨v, _, h2, _⟩ := plan_step h (Array.getElem?_eq_getElem (show i < ops.size by omega))
    exact plan_more h k (i + 1) (by omega) c (h2 c hc)
/-- A slot that nobody writes from i on. -/
theorem plan_eval (h : (plan P om tab ops a0 β ops.size).isSome = true) {d : Tmp} : ∀ k i, i + k = ops.size → (∀ j ∈ writers ops d, j < i) → (planD P om tab ops a0 β i).1.eval (.tmp d) = (fin P om tab ops a0 β).eval (.tmp d)
  | 0, i, e, _ => by
    rw [Nat.add_zero] at e
    subst e
    rfl
  | k + 1, i, e, hd => by
    have hlt : i < ops.size := by omega
    obtain ⟨v, h1, _⟩ := plan_step h (Array.getElem?_eq_getElem hlt)
    rw [← plan_eval h k (i + 1) (by omega) (fun j hj => by have := hd j hj; omega), h1, eval_put_ne]
    intro hn
    have := hd i (mem_writers.2 ⟨_, Array.getElem?_eq_getElem hlt, hn⟩)
    omega
theorem fin_dst (hF : formed ops a0.tmps.size = true) (h : (plan P om tab ops a0 β ops.size).isSome = true) {i : Nat} {o : Oper} (hi : ops[i]? = some o) {v : Value} (hv : (planD P om tab ops a0 β (i + 1)).1 = (planD P om tab ops a0 β i).1.put o.dst v) {d : Tmp} (hd : o.dst = some d) :
    (fin P om tab ops a0 β).eval (.tmp d) = v := by
  have hlt : i < ops.size := (Array.getElem?_eq_some_iff.1 hi).1
  obtain ⟨h1, h2⟩ := (formed_op hF hi).1 d hd
  rw [← plan_eval h (ops.size - (i + 1)) (i + 1) (by omega) (fun j hj => by have := h2 j hj; omega), hv, hd, eval_put_eq]
  rw [plan_size h i (by omega)]
  exact h1
end
end Go.Free
/- A region that draws its order, once for all orders: the proof. No condition on the program. -/
namespace Go.Free
open Go Go.RowKit

theorem Holds.below {b : Nat} {vs : List Value} {w w' : World} (h : Holds b vs w) {B : Nat} (hb : Below B w w') (hB : b < B) : Holds b vs w' := fun k v hk => by
  obtain ⟨h1, h2⟩ := h k v hk
  exact ⟨by rw [hb.cell (p := ⟨b, k, none⟩) hB]; exact h1, by rw [hb.frozen (p := ⟨b, k, none⟩) hB]; exact h2⟩
theorem Holds.new {zs : List Value} {w : World} {e : TypeId} : Holds w.heap.size zs (w.alloc (.cells zs.toArray e)) := fun k v hk => by
  refine ⟨?_, by simp [go_sem]⟩
  have := World.cell?_alloc_new w zs.toArray e k
  rw [this]
  simpa using hk
theorem Holds.put {b : Nat} {zs vs : List Value} {w : World} (h : Holds b zs w) (hl : zs.length = vs.length) : Holds b vs (w.setCells b 0 vs) := fun k v hk => by
  obtain ⟨hlt, rfl⟩ := List.getElem?_eq_some_iff.1 hk
  have hk0 : ∀ j, j < vs.length → (w.cell? ⟨b, j, none⟩).isSome = true := fun j hj => by
    rw [(h j (zs[j]'(by omega)) (List.getElem?_eq_getElem (by omega))).1]
    rfl
  refine ⟨?_, ?_⟩
  · have := World.cell?_setCells_in b vs 0 w (fun j hj => by rw [Nat.zero_add]; exact hk0 j hj) k hlt
    rwa [Nat.zero_add] at this
  · rw [World.frozen?_setCells]
    exact (h k (zs[k]'(by omega)) (List.getElem?_eq_getElem (by omega))).2
theorem Holds.other {b q : Nat} {zs vs : List Value} {w : World} (h : Holds q zs w) (hq : q ≠ b) : Holds q zs (w.setCells b 0 vs) := fun k v hk => by
  obtain ⟨h1, h2⟩ := h k v hk
  refine ⟨?_, by rw [World.frozen?_setCells]; exact h2⟩
  rw [World.cell?_setCells_out b vs 0 w _ (fun e _ => absurd e hq)]
  exact h1
theorem size_setCells (b : Nat) : ∀ (vs : List Value) (o : Nat) (w : World), (w.setCells b o vs).heap.size = w.heap.size
  | [], _, _ => rfl
  | v :: r, o, w => by rw [World.setCells, size_setCells b r (o + 1) (w.setCell ⟨b, o, none⟩ v)]; simp [World.setCell]
theorem below_setCells {B b : Nat} (hB : B ≤ b) {a : World} : ∀ (vs : List Value) (o : Nat) (w : World), Below B a w → Below B a (w.setCells b o vs)
  | [], _, _, h => h
  | v :: r, o, _, h => below_setCells hB r (o + 1) _ (h.setCell hB v)

section
variable (P : Program) (om : Nat → Nat) (tab : List (Nat × Ent)) (ops : Array Oper) (a0 : Act) (S : World → Prop) (B0 : Nat) (w0 : World) (olds : List (Nat × List Value))

structure Inv (β : Nat → Nat) (L : Nat → Bool) (a : Act) (w : World) : Prop where
  d : a.defers = a0.defers
  z : a.tmps.size = a0.tmps.size
  t : ∀ d, (∀ j ∈ writers ops d, L j = true) → a.eval (.tmp d) = (fin P om tab ops a0 β).eval (.tmp d)
  s : S w
  hz : w0.heap.size ≤ w.heap.size
  b : Below B0 w0 w
  nw : ∀ i zs, newOf (look tab i) = some zs → L i = true → w0.heap.size ≤ β i ∧ β i < w.heap.size ∧ Holds (β i) (cur tab L (.own i) zs) w
  ne : ∀ i j zi zj, newOf (look tab i) = some zi → newOf (look tab j) = some zj → L i = true → L j = true → i ≠ j → β i ≠ β j
  ol : ∀ p zs, (p, zs) ∈ olds → Holds (om p) (cur tab L (.old p) zs) w
  cl : ∀ i o j, ops[i]? = some o → L i = true → waits o j = true → L j = true
end

section
variable {P : Program} {om : Nat → Nat} {tab : List (Nat × Ent)} {ops : Array Oper} {a0 : Act} {S : World → Prop} {B0 : Nat} {w0 : World} {olds : List (Nat × List Value)} {β : Nat → Nat} {L : Nat → Bool} {a : Act} {w : World}

/-- What is given ahead. -/
structure Set (P : Program) (om : Nat → Nat) (tab : List (Nat × Ent)) (ops : Array Oper) (a0 : Act) (S : World → Prop) (B0 : Nat) (w0 : World) (olds : List (Nat × List Value)) : Prop where
  F : formed ops a0.tmps.size = true
  ok : AllOk P S ops tab
  pl : ∀ β, (plan P om tab ops a0 β ops.size).isSome = true
  cs : ∀ β, (planD P om tab ops a0 β ops.size).2.map (·.1) = (planD P om tab ops a0 β ops.size).2.map (·.2)
  st : ∀ β, still P om tab ops a0 β = still P om tab ops a0 (fun _ => 0)
  ty : tidy tab ops olds = true
  S : ∀ w w', S w → Below B0 w w' → S w'
  b0 : B0 ≤ w0.heap.size
  ol : ∀ p zs, (p, zs) ∈ olds → B0 ≤ om p ∧ om p < w0.heap.size
  od : ∀ p q zs zs', (p, zs) ∈ olds → (q, zs') ∈ olds → p ≠ q → om p ≠ om q

theorem new_val (G : Set P om tab ops a0 S B0 w0 olds) {j : Nat} {zs : List Value} (hn : newOf (look tab j) = some zs) {o : Oper} (hj : ops[j]? = some o) {d : Tmp} (hd : o.dst = some d) {β' : Nat → Nat} (e : β' j = β j) :
    (fin P om tab ops a0 β').eval (.tmp d) = (fin P om tab ops a0 β).eval (.tmp d) := by
  have key : ∀ γ : Nat → Nat, (∃ t zs, look tab j = some (.new t zs) ∧ (fin P om tab ops a0 γ).eval (.tmp d) = .pointer (some ⟨γ j, 0, none⟩)) ∨ ∃ t e n ks ps zs, look tab j = some (.row t e n ks ps zs) ∧ (fin P om tab ops a0 γ).eval (.tmp d) = .slice (some ⟨γ j, 0, none⟩) n n := fun γ => by
    obtain ⟨v, h1, _, h3⟩ := plan_step (G.pl γ) hj
    have h4 := fin_dst G.F (G.pl γ) hj h1 hd
    rw [h4]
    rcases h3 with ⟨_, cs, hr, _⟩ | ⟨_, hl, _⟩
    · unfold res at hr
      cases hl : look tab j with
      | none => rw [hl] at hn; cases hn
      | some e =>
        rw [hl] at hr hn
        cases e with
        | new t zs =>
          simp only at hr
          split at hr
          · split at hr
            · cases hr
              exact .inl ⟨_, _, rfl, rfl⟩
            · cases hr
          · cases hr
        | row t e n ks ps zs =>
          simp only at hr
          split at hr
          · split at hr
            · cases hr
              exact .inr ⟨_, _, _, _, _, _, rfl, rfl⟩
            · cases hr
          · cases hr
        | _ => cases hn
    · rw [hl] at hn; cases hn
  rcases key β with ⟨t, zs, h1, h2⟩ | ⟨t, e1, n, ks, ps, zs, h1, h2⟩
  · rcases key β' with ⟨t', zs', g1, g2⟩ | ⟨t', e1', n', ks', ps', zs', g1, g2⟩
    · rw [h2, g2, e]
    · rw [h1] at g1; cases g1
  · rcases key β' with ⟨t', zs', g1, g2⟩ | ⟨t', e1', n', ks', ps', zs', g1, g2⟩
    · rw [h1] at g1; cases g1
    · rw [h1] at g1; cases g1
      rw [h2, g2, e]
theorem still_val (G : Set P om tab ops a0 S B0 w0 olds) {j : Nat} {o : Oper} (hj : ops[j]? = some o) (hn : newOf (look tab j) = none) {d : Tmp} (hd : o.dst = some d) (β' : Nat → Nat) :
    (fin P om tab ops a0 β').eval (.tmp d) = (fin P om tab ops a0 β).eval (.tmp d) := by
  have hlt : j < ops.size := (Array.getElem?_eq_some_iff.1 hj).1
  have key : ∀ γ : Nat → Nat, (still P om tab ops a0 γ)[j]? = some ((fin P om tab ops a0 γ).eval (.tmp d)) := fun γ => by
    unfold still
    rw [List.getElem?_map, List.getElem?_range hlt]
    have : isNew (look tab j) = false := by
      cases hl : look tab j with
      | none => rfl
      | some e =>
        rw [hl] at hn
        cases e <;> first | rfl | cases hn
    simp [this, hj, hd]
  have h1 := key β
  rw [G.st β, ← G.st β', key β'] at h1
  exact Option.some.inj h1

theorem Inv.turn (G : Set P om tab ops a0 S B0 w0 olds) (h : Inv P om tab ops a0 S B0 w0 olds β L a w) {i : Nat} (hi : L i = false) (n : Nat) : Inv P om tab ops a0 S B0 w0 olds (fun j => if j = i then n else β j) L a w := by
  have far : ∀ j, L j = true → (if j = i then n else β j) = β j := fun j hj => by
    rw [if_neg]
    rintro rfl
    rw [hi] at hj
    cases hj
  refine ⟨h.d, h.z, fun d hd => ?_, h.s, h.hz, h.b, fun j zs hj hl => ?_, fun j k zi zj hj hk lj lk hne => ?_, h.ol, h.cl⟩
  · rw [h.t d hd]
    by_cases hw : ∃ j, j ∈ writers ops d
    · obtain ⟨j, hj⟩ := hw
      obtain ⟨o, ho, hod⟩ := mem_writers.1 hj
      cases hn : newOf (look tab j) with
      | some zs => exact (new_val G hn ho hod (far j (hd j hj))).symm
      | none => exact still_val G ho hn hod _
    · have hno : ∀ j ∈ writers ops d, j < 0 := fun j hj => absurd ⟨j, hj⟩ hw
      rw [← plan_eval (G.pl β) ops.size 0 (by omega) hno, ← plan_eval (G.pl _) ops.size 0 (by omega) hno]
      rfl
  · rw [far j hl]
    exact h.nw j zs hj hl
  · rw [far j lj, far k lk]
    exact h.ne j k zi zj hj hk lj lk hne

theorem lor_ne {i j : Nat} (hn : j ≠ i) : (j == i || L j) = L j := by simp [hn]
theorem lor_of {i j : Nat} (h : L j = true) : (j == i || L j) = true := by simp [h]
theorem cur_same {i : Nat} {g : Tgt} {zs : List Value} (hp : into tab i g = none) : cur tab (fun j => j == i || L j) g zs = cur tab L g zs := by
  unfold cur
  split
  · rename_i k hk
    by_cases e : k = i
    · subst e
      rw [hp]
      simp
    · simp only [lor_ne e]
  · rfl
theorem cur_put {i : Nat} {t : TypeId} {g : Tgt} {x : Value} {vs zs : List Value} (hl : look tab i = some (.put t g x vs)) (hp : putsOf tab g = some i) : cur tab (fun j => j == i || L j) g zs = vs := by
  unfold cur
  rw [hp]
  have : into tab i g = some vs := by
    unfold into
    rw [hl]
    simp [Tgt.same_iff.2 rfl]
  simp [this]
theorem cur_len {g : Tgt} {zs : List Value} (hz : ∀ i t x vs, look tab i = some (.put t g x vs) → zs.length = vs.length) : (cur tab L g zs).length = zs.length := by
  unfold cur
  split
  · rename_i k hk
    split
    · unfold into
      split
      · rename_i t h x vs hl
        split
        · rename_i hs
          have := Tgt.same_iff.1 hs
          subst this
          exact (hz _ _ _ _ hl).symm
        · rfl
      · rfl
    · rfl
  · rfl

/-- What does not touch the blocks. -/
theorem Inv.quiet (G : Set P om tab ops a0 S B0 w0 olds) (h : Inv P om tab ops a0 S B0 w0 olds β L a w) {i : Nat} {o : Oper} (hi : ops[i]? = some o) (hdep : ∀ j, waits o j = true → L j = true) {v : Value} (hv : (planD P om tab ops a0 β (i + 1)).1 = (planD P om tab ops a0 β i).1.put o.dst v)
    (hnew : newOf (look tab i) = none) (hput : ∀ g, into tab i g = none) {w' : World} (hb : Below w.heap.size w w') :
    Inv P om tab ops a0 S B0 w0 olds β (fun j => j == i || L j) (a.put o.dst v) w' where
  d := by rw [← h.d]; cases o.dst <;> rfl
  z := by rw [size_put]; exact h.z
  t := fun d hd => by
    by_cases e : o.dst = some d
    · rw [fin_dst G.F (G.pl β) hi hv e, e, eval_put_eq]
      rw [h.z]
      exact ((formed_op G.F hi).1 d e).1
    · rw [eval_put_ne e]
      refine h.t d fun j hj => ?_
      have := hd j hj
      rwa [lor_ne] at this
      rintro rfl
      obtain ⟨o', ho, hod⟩ := mem_writers.1 hj
      rw [hi] at ho
      cases ho
      exact e hod
  s := G.S _ _ h.s (hb.mono (Nat.le_trans G.b0 h.hz))
  hz := Nat.le_trans h.hz hb.size
  b := h.b.trans (hb.mono (Nat.le_trans G.b0 h.hz))
  nw := fun j zs hj hl => by
    have e : j ≠ i := by rintro rfl; rw [hnew] at hj; cases hj
    rw [cur_same (hput _)]
    obtain ⟨h1, h2, h3⟩ := h.nw j zs hj (by simpa [e] using hl)
    exact ⟨h1, Nat.lt_of_lt_of_le h2 hb.size, h3.below hb h2⟩
  ne := fun j k zi zj hj hk lj lk hne => by
    have e : j ≠ i := by rintro rfl; rw [hnew] at hj; cases hj
    have e' : k ≠ i := by rintro rfl; rw [hnew] at hk; cases hk
    exact h.ne j k zi zj hj hk (by simpa [e] using lj) (by simpa [e'] using lk) hne
  ol := fun p zs hp => by
    rw [cur_same (hput _)]
    exact (h.ol p zs hp).below hb (by have := (G.ol p zs hp).2; have := h.hz; omega)
  cl := fun j o' k hj hl hk => by
    by_cases e : j = i
    · subst e
      rw [hi] at hj
      cases hj
      exact lor_of (hdep k hk)
    · exact lor_of (h.cl j o' k hj (by simpa [e] using hl) hk)

theorem Inv.made (G : Set P om tab ops a0 S B0 w0 olds) (h : Inv P om tab ops a0 S B0 w0 olds β L a w) {i : Nat} {o : Oper} (hi : ops[i]? = some o) (hL : L i = false) (hdep : ∀ j, waits o j = true → L j = true) {v : Value} (hv : (planD P om tab ops a0 β (i + 1)).1 = (planD P om tab ops a0 β i).1.put o.dst v)
    {zs : List Value} {e : TypeId} (hnew : newOf (look tab i) = some zs) (hb : β i = w.heap.size) :
    Inv P om tab ops a0 S B0 w0 olds β (fun j => j == i || L j) (a.put o.dst v) (w.alloc (.cells zs.toArray e)) where
  d := by rw [← h.d]; cases o.dst <;> rfl
  z := by rw [size_put]; exact h.z
  t := fun d hd => by
    by_cases e : o.dst = some d
    · rw [fin_dst G.F (G.pl β) hi hv e, e, eval_put_eq]
      rw [h.z]
      exact ((formed_op G.F hi).1 d e).1
    · rw [eval_put_ne e]
      refine h.t d fun j hj => ?_
      have := hd j hj
      rwa [lor_ne] at this
      rintro rfl
      obtain ⟨o', ho, hod⟩ := mem_writers.1 hj
      rw [hi] at ho
      cases ho
      exact e hod
  s := G.S _ _ h.s ((Below.refl _ _).alloc (Nat.le_trans G.b0 h.hz) _)
  hz := Nat.le_trans h.hz (by simp)
  b := h.b.alloc (Nat.le_trans G.b0 h.hz) _
  nw := fun j zs' hj hl => by
    have hp : ∀ g, into tab i g = none := fun g => by
      unfold into
      split
      · rename_i hl2
        rw [hl2] at hnew
        cases hnew
      · rfl
    rw [cur_same (hp _)]
    by_cases e : j = i
    · subst e
      rw [hnew] at hj
      cases hj
      rw [hb]
      refine ⟨h.hz, by simp, ?_⟩
      have : cur tab L (.own j) zs = zs := by
        unfold cur
        split
        · rename_i k hk
          split
          · rename_i hLk
            unfold into
            split
            · rename_i t g x vs hl2
              split
              · rename_i hs
                have := Tgt.same_iff.1 hs
                subst this
                obtain ⟨_, h2, _⟩ := tidy_put G.ty hl2
                obtain ⟨zs2, o2, _, ho2, _, hw2⟩ := h2 j rfl
                have := h.cl k o2 j ho2 hLk hw2
                rw [hL] at this
                cases this
              · rfl
            · rfl
          · rfl
        · rfl
      rw [this]
      exact Holds.new
    · obtain ⟨h1, h2, h3⟩ := h.nw j zs' hj (by simpa [e] using hl)
      exact ⟨h1, by simp; omega, h3.below ((Below.refl w.heap.size w).alloc (Nat.le_refl _) _) h2⟩
  ne := fun j k zi zj hj hk lj lk hne => by
    by_cases e : j = i
    · subst e
      have e' : k ≠ j := fun e => hne e.symm
      have := (h.nw k zj hk (by simpa [e'] using lk)).2.1
      omega
    · by_cases e' : k = i
      · subst e'
        have := (h.nw j zi hj (by simpa [e] using lj)).2.1
        omega
      · exact h.ne j k zi zj hj hk (by simpa [e] using lj) (by simpa [e'] using lk) hne
  ol := fun p zs' hp => by
    have hp2 : ∀ g, into tab i g = none := fun g => by
      unfold into
      split
      · rename_i hl2
        rw [hl2] at hnew
        cases hnew
      · rfl
    rw [cur_same (hp2 _)]
    exact (h.ol p zs' hp).below ((Below.refl w.heap.size w).alloc (Nat.le_refl _) _) (by have := (G.ol p zs' hp).2; have := h.hz; omega)
  cl := fun j o' k hj hl hk => by
    by_cases e : j = i
    · subst e
      rw [hi] at hj
      cases hj
      exact lor_of (hdep k hk)
    · exact lor_of (h.cl j o' k hj (by simpa [e] using hl) hk)

theorem Inv.stored (G : Set P om tab ops a0 S B0 w0 olds) (h : Inv P om tab ops a0 S B0 w0 olds β L a w) {i : Nat} {o : Oper} (hi : ops[i]? = some o) (hdep : ∀ j, waits o j = true → L j = true) {v : Value} (hv : (planD P om tab ops a0 β (i + 1)).1 = (planD P om tab ops a0 β i).1.put o.dst v)
    {t : TypeId} {g : Tgt} {x : Value} {vs : List Value} (hl : look tab i = some (.put t g x vs)) :
    (∃ zs, zs.length = vs.length ∧ Holds (blk om β g) zs w) ∧ Inv P om tab ops a0 S B0 w0 olds β (fun j => j == i || L j) (a.put o.dst v) (w.setCells (blk om β g) 0 vs) := by
  obtain ⟨hp, hown, hold⟩ := tidy_put G.ty hl
  have hlen : ∀ zs, (∀ t x vs', look tab i = some (.put t g x vs') → zs.length = vs'.length) → (cur tab L g zs).length = vs.length := fun zs hz => by
    rw [cur_len (fun k t x vs' hk => ?_)]
    · exact hz _ _ _ hl
    · have := (tidy_put G.ty hk).1
      rw [hp] at this
      cases this
      exact hz _ _ _ hk
  have hB : B0 ≤ blk om β g := by
    cases g with
    | own j =>
      obtain ⟨zs, o', h1, h2, _, h3⟩ := hown j rfl
      rw [hi] at h2
      cases h2
      exact Nat.le_trans G.b0 (h.nw j zs h1 (hdep j h3)).1
    | old p =>
      obtain ⟨⟨zs, h1⟩, _⟩ := hold p rfl
      exact (G.ol p zs h1).1
  have hnew : ∀ j zs, newOf (look tab j) = some zs → j ≠ i := fun j zs hj e => by
    subst e
    rw [hl] at hj
    cases hj
  have hin : ∀ g', g ≠ g' → into tab i g' = none := fun g' hg => by
    unfold into
    rw [hl]
    simp only
    rw [if_neg]
    intro e
    exact hg (Tgt.same_iff.1 e).symm
  refine ⟨?_, ?_⟩
  · cases g with
    | own j =>
      obtain ⟨zs, o', h1, h2, h4, h3⟩ := hown j rfl
      rw [hi] at h2
      cases h2
      exact ⟨_, hlen zs (fun t x vs' hk => by rw [hl] at hk; cases hk; exact h4), (h.nw j zs h1 (hdep j h3)).2.2⟩
    | old p =>
      obtain ⟨⟨zs, h1⟩, h2⟩ := hold p rfl
      exact ⟨_, hlen zs (fun t x vs' hk => by rw [hl] at hk; cases hk; exact h2 zs h1), h.ol p zs h1⟩
  exact {
    d := by rw [← h.d]; cases o.dst <;> rfl
    z := by rw [size_put]; exact h.z
    t := fun d hd => by
      by_cases e : o.dst = some d
      · rw [fin_dst G.F (G.pl β) hi hv e, e, eval_put_eq]
        rw [h.z]
        exact ((formed_op G.F hi).1 d e).1
      · rw [eval_put_ne e]
        refine h.t d fun j hj => ?_
        have := hd j hj
        rwa [lor_ne] at this
        rintro rfl
        obtain ⟨o', ho, hod⟩ := mem_writers.1 hj
        rw [hi] at ho
        cases ho
        exact e hod
    s := G.S _ _ h.s (below_setCells hB _ _ _ (Below.refl _ _))
    hz := by rw [size_setCells]; exact h.hz
    b := below_setCells hB _ _ _ h.b
    nw := fun j zs hj hlj => by
      have e := hnew j zs hj
      obtain ⟨h1, h2, h3⟩ := h.nw j zs hj (by simpa [e] using hlj)
      refine ⟨h1, by rw [size_setCells]; exact h2, ?_⟩
      by_cases hg : g = .own j
      · subst hg
        rw [cur_put hl hp]
        obtain ⟨zs', o', g1, g2, g4, g3⟩ := hown j rfl
        rw [hj] at g1
        cases g1
        exact h3.put (hlen zs (fun t x vs' hk => by rw [hl] at hk; cases hk; exact g4))
      · rw [cur_same (hin _ hg)]
        refine h3.other ?_
        cases g with
        | own k =>
          obtain ⟨zs', o', g1, g2, _, g3⟩ := hown k rfl
          rw [hi] at g2
          cases g2
          exact h.ne j k _ _ hj g1 (by simpa [e] using hlj) (hdep k g3) (fun e => hg (by rw [e]))
        | old p =>
          obtain ⟨⟨zs', g1⟩, _⟩ := hold p rfl
          have := (G.ol p zs' g1).2
          show β j ≠ om p
          omega
    ne := fun j k zi zj hj hk lj lk hne => h.ne j k zi zj hj hk (by simpa [hnew j zi hj] using lj) (by simpa [hnew k zj hk] using lk) hne
    ol := fun q zs hq => by
      by_cases hg : g = .old q
      · subst hg
        rw [cur_put hl hp]
        exact (h.ol q zs hq).put (hlen zs (fun t x vs' hk => by rw [hl] at hk; cases hk; exact (hold q rfl).2 zs hq))
      · rw [cur_same (hin _ hg)]
        refine (h.ol q zs hq).other ?_
        cases g with
        | own k =>
          obtain ⟨zs', o', g1, g2, _, g3⟩ := hown k rfl
          rw [hi] at g2
          cases g2
          have := (h.nw k zs' g1 (hdep k g3)).1
          have := (G.ol q zs hq).2
          show om q ≠ β k
          omega
        | old p =>
          obtain ⟨⟨zs', g1⟩, _⟩ := hold p rfl
          exact G.od q p _ _ hq g1 (fun e => hg (by rw [e]))
    cl := fun j o' k hj hlj hk => by
      by_cases e : j = i
      · subst e
        rw [hi] at hj
        cases hj
        exact lor_of (hdep k hk)
      · exact lor_of (h.cl j o' k hj (by simpa [e] using hlj) hk) }

theorem zip_eq {ks : List Nat} {ps : List Value} {qs : Array (Nat × Operand)} {ρ : Operand → Value} (h1 : qs.toList.map (·.1) = ks) (h2 : (qs.toList.map fun q => ρ q.2) = ps) : (qs.map fun (i, x) => (i, ρ x)) = zipped ks ps := by
  unfold zipped
  subst h1 h2
  apply Array.toList_inj.1
  rw [Array.toList_map]
  simp only [List.zip_map']
theorem agg_inj {x y : Array Value} (h : Value.agg x = .agg y) : x = y := by cases h; rfl

/-- What an operation does, by its entry. -/
theorem res_run (hok : AllOk P S ops tab) {α : Act} {i : Nat} {o : Oper} {v : Value} {cs : List (Value × Value)} (hi : ops[i]? = some o) (hr : res P om tab β α.eval i o = some (v, cs)) (hc : ∀ c ∈ cs, c.1 = c.2) :
    (newOf (look tab i) = none ∧ (∀ g, into tab i g = none) ∧ ((∀ w, S w → (execOp α.eval o).run P w = .ok (.value v) w) ∨ ∃ f args, (∀ w, (execOp α.eval o).run P w = .ok (.enter f args) w) ∧ ∀ w, S w → Calls P f args w fun e w' => e = .returned v ∧ Below w.heap.size w w')) ∨
    (∃ zs e, newOf (look tab i) = some zs ∧ ∀ w, β i = w.heap.size → (execOp α.eval o).run P w = .ok (.value v) (w.alloc (.cells zs.toArray e))) ∨
    (∃ t g x vs, look tab i = some (.put t g x vs) ∧ v = undef ∧ ∀ w zs, zs.length = vs.length → Holds (blk om β g) zs w → (execOp α.eval o).run P w = .ok .skip (w.setCells (blk om β g) 0 vs)) := by
  have nin : ∀ {e : Option Ent}, look tab i = e → (∀ t g x vs, e ≠ some (.put t g x vs)) → ∀ g, into tab i g = none := fun {e} he hne g => by
    unfold into
    rw [he]
    split
    · exact absurd rfl (hne _ _ _ _)
    · rfl
  unfold res at hr
  cases hl : look tab i with
  | none =>
    rw [hl] at hr
    simp only at hr
    obtain ⟨v', hv, he⟩ := Option.map_eq_some_iff.1 hr
    cases he
    exact .inl ⟨rfl, nin hl (fun _ _ _ _ h => by cases h), .inl fun w _ => Takes.val_ok hv w⟩
  | some e =>
    have hE := hok.get hl
    rw [hl] at hr
    cases e with
    | load t p v' =>
      simp only at hr
      split at hr
      · rename_i t' x ho
        split at hr
        · rename_i ht
          cases hr
          subst ht
          have hx := hc (α.eval x, .pointer (some p)) (List.mem_singleton.2 rfl)
          simp only at hx
          refine .inl ⟨rfl, nin hl (fun _ _ _ _ h => by cases h), .inl fun w hw => ?_⟩
          have g := hE w hw
          simp [execOp, ho, hx, g]
        · cases hr
      · cases hr
    | cmp op t x y v' =>
      simp only at hr
      split at hr
      · rename_i op' t' x' y' t2 ho
        split at hr
        · rename_i ht
          cases hr
          obtain ⟨rfl, rfl⟩ := ht
          have hx := hc (α.eval x', x) (by simp)
          have hy := hc (α.eval y', y) (by simp)
          simp only at hx hy
          refine .inl ⟨rfl, nin hl (fun _ _ _ _ h => by cases h), .inl fun w _ => ?_⟩
          obtain ⟨g1, g2⟩ := hE x' y' w
          simp [execOp, ho, hx, hy, g1, g2]
        · cases hr
      · cases hr
    | call f args v' =>
      simp only at hr
      split at hr
      · rename_i c ho
        split at hr
        · rename_i g hcal
          split at hr
          · rename_i hg
            cases hr
            subst hg
            have hx := agg_inj (hc (.agg (c.args.map α.eval), .agg args.toArray) (List.mem_singleton.2 rfl))
            refine .inl ⟨rfl, nin hl (fun _ _ _ _ h => by cases h), .inr ⟨g, args.toArray, fun w => ?_, hE.2⟩⟩
            have hf : α.eval (.func g) = .func (.func g) #[] #[] := rfl
            generalize α.eval = ρ at hx hf
            have hcf := hE.1 args.toArray w
            simp [execOp, ho, resolve, hcal, hx, hf, invoke, go_sem, hcf]
          · cases hr
        · cases hr
      · cases hr
    | make t ks ps v' =>
      simp only at hr
      split at hr
      · rename_i t' qs ho
        split at hr
        · rename_i ht
          cases hr
          obtain ⟨rfl, hk⟩ := ht
          have hx := agg_inj (hc (.agg (qs.toList.map fun q => α.eval q.2).toArray, .agg ps.toArray) (List.mem_singleton.2 rfl))
          have hz := zip_eq hk (List.toArray_inj hx)
          refine .inl ⟨rfl, nin hl (fun _ _ _ _ h => by cases h), .inl fun w _ => ?_⟩
          have g := hE w
          rw [← hz] at g
          simp [execOp, ho, g]
        · cases hr
      · cases hr
    | new t zs =>
      simp only at hr
      split at hr
      · rename_i t' ho
        split at hr
        · rename_i ht
          cases hr
          subst ht
          refine .inr (.inl ⟨zs, t', rfl, fun w hb => ?_⟩)
          have g := hE w
          rw [hb]
          simp [execOp, ho, g]
        · cases hr
      · cases hr
    | row t e n ks ps zs =>
      simp only at hr
      split at hr
      · rename_i t' n' qs ho
        split at hr
        · rename_i ht
          cases hr
          obtain ⟨rfl, rfl, hk⟩ := ht
          have hx := agg_inj (hc (.agg (qs.toList.map fun q => α.eval q.2).toArray, .agg ps.toArray) (List.mem_singleton.2 rfl))
          have hz := zip_eq hk (List.toArray_inj hx)
          refine .inr (.inl ⟨zs, e, rfl, fun w hb => ?_⟩)
          have g := hE w
          rw [← hz] at g
          rw [hb]
          simp [execOp, ho, g]
        · cases hr
      · cases hr
    | put t g x vs =>
      simp only at hr
      split at hr
      · rename_i t' xa xv ho
        split at hr
        · rename_i ht
          cases hr
          subst ht
          have hx := hc (α.eval xa, .pointer (some ⟨blk om β g, 0, none⟩)) (by simp)
          have hy := hc (α.eval xv, x) (by simp)
          simp only at hx hy
          refine .inr (.inr ⟨t', g, x, vs, rfl, rfl, fun w zs hzl hh => ?_⟩)
          have g1 := hE _ w zs hzl hh
          simp [execOp, ho, hx, hy, g1]
        · cases hr
      · cases hr
    | gen xs v' =>
      simp only at hr
      cases hr
      have hx := agg_inj (hc (.agg (o.op.operands.toList.map α.eval).toArray, .agg xs.toArray) (List.mem_singleton.2 rfl))
      exact .inl ⟨rfl, nin hl (fun _ _ _ _ h => by cases h), .inl fun w hw => hE o hi α.eval (List.toArray_inj hx) w hw⟩

theorem same_eval (G : Set P om tab ops a0 S B0 w0 olds) (h : Inv P om tab ops a0 S B0 w0 olds β L a w) {i : Nat} {o : Oper} (hi : ops[i]? = some o) (hdep : ∀ j, waits o j = true → L j = true) {d : Tmp} (hd : d ∈ o.looksAt ops) :
    a.eval (.tmp d) = (planD P om tab ops a0 β i).1.eval (.tmp d) := by
  have hlt : i < ops.size := (Array.getElem?_eq_some_iff.1 hi).1
  have hw := (formed_op G.F hi).2 d hd
  rw [h.t d (fun j hj => hdep j (hw j hj).2), plan_eval (G.pl β) (ops.size - i) i (by omega) (fun j hj => (hw j hj).1)]
theorem same_op (G : Set P om tab ops a0 S B0 w0 olds) (h : Inv P om tab ops a0 S B0 w0 olds β L a w) {i : Nat} {o : Oper} (hi : ops[i]? = some o) (hdep : ∀ j, waits o j = true → L j = true) :
    execOp a.eval o = execOp (planD P om tab ops a0 β i).1.eval o :=
  execOp_congr o (fun cs b => Region.noSelect_spec (formed_sel G.F).2 i o cs b hi) fun x hx => by
    cases x with
    | tmp d => exact same_eval G h hi hdep (List.mem_append_left _ (List.mem_filterMap.2 ⟨.tmp d, by simpa using hx, rfl⟩))
    | _ => rfl
theorem same_wanted (G : Set P om tab ops a0 S B0 w0 olds) (h : Inv P om tab ops a0 S B0 w0 olds β L a w) {i : Nat} {o : Oper} (hi : ops[i]? = some o) (hdep : ∀ j, waits o j = true → L j = true) :
    Region.wanted o (yielded ops a.tmps) = Region.wanted o (yielded ops (planD P om tab ops a0 β i).1.tmps) := by
  have hlt : i < ops.size := (Array.getElem?_eq_some_iff.1 hi).1
  unfold Region.wanted
  cases hg : o.guard with
  | none => rfl
  | some gw =>
    obtain ⟨g, want⟩ := gw
    have hy : yielded ops a.tmps g = yielded ops (planD P om tab ops a0 β i).1.tmps g := by
      unfold yielded
      cases ht : (ops[g]?).bind (·.dst) with
      | none => rfl
      | some t =>
        have h1 := same_eval G h hi hdep (d := t) (List.mem_append_right _ (by simp [hg, ht]))
        have hz : a.tmps.size = (planD P om tab ops a0 β i).1.tmps.size := by rw [h.z, plan_size (G.pl β) i (by omega)]
        simp only [Option.bind_some]
        unfold Act.eval at h1
        simp only [Array.getD_eq_getD_getElem?] at h1
        by_cases hlt2 : t < a.tmps.size
        · rw [Array.getElem?_eq_getElem hlt2, Array.getElem?_eq_getElem (Nat.lt_of_lt_of_eq hlt2 hz)] at h1 ⊢
          simp only [Option.getD_some] at h1
          rw [h1]
        · rw [Array.getElem?_eq_none (Nat.not_lt.1 hlt2), Array.getElem?_eq_none (Nat.le_trans (Nat.le_of_eq hz.symm) (Nat.not_lt.1 hlt2))]
    simp only [hy]

theorem Inv.next (G : Set P om tab ops a0 S B0 w0 olds) {Q : Exit → Act → World → Prop} {i : Nat} {o : Oper} (hi : ops[i]? = some o) (hL : L i = false) (hdep : ∀ j, waits o j = true → L j = true) (h : ∃ β, Inv P om tab ops a0 S B0 w0 olds β L a w) :
    if Region.wanted o (yielded ops a.tmps) = true then o.wp P a w (fun a' w' => ∃ β, Inv P om tab ops a0 S B0 w0 olds β (fun j => j == i || L j) a' w') Q else ∃ β, Inv P om tab ops a0 S B0 w0 olds β (fun j => j == i || L j) (a.put o.dst undef) w := by
  have hlt : i < ops.size := (Array.getElem?_eq_some_iff.1 hi).1
  obtain ⟨β0, h0⟩ := h
  have h1 := h0.turn G hL w.heap.size
  generalize hβ : (fun j => if j = i then w.heap.size else β0 j) = β at h1
  have hbi : β i = w.heap.size := by rw [← hβ]; simp
  obtain ⟨v, hv, hmore, hcase⟩ := plan_step (G.pl β) hi
  rw [same_wanted G h1 hi hdep]
  rcases hcase with ⟨hw, cs, hr, hcs⟩ | ⟨hw, hl, rfl⟩
  · rw [if_pos hw]
    have hc : ∀ c ∈ cs, c.1 = c.2 := fun c hc => Takes.all_eq (G.cs β) c (plan_more (G.pl β) (ops.size - (i + 1)) (i + 1) (by omega) c (hcs c hc))
    unfold Oper.wp
    rw [same_op G h1 hi hdep]
    rcases res_run G.ok hi hr hc with ⟨hn, hp, hval | ⟨f, args, hrun, hcall⟩⟩ | ⟨zs, e, hn, hrun⟩ | ⟨t, g, x, vs, hl, rfl, hrun⟩
    · rw [hval w h1.s]
      exact ⟨β, h1.quiet G hi hdep hv hn hp (Below.refl _ _)⟩
    · rw [hrun w]
      simp only [Oper.upon]
      refine (hcall w h1.s).mono fun e w' he => ?_
      obtain ⟨rfl, hb⟩ := he
      exact ⟨β, h1.quiet G hi hdep hv hn hp hb⟩
    · rw [hrun w hbi]
      exact ⟨β, h1.made G hi hL hdep hv hn hbi⟩
    · obtain ⟨⟨zs, hz, hh⟩, h2⟩ := h1.stored G hi hdep hv hl
      rw [hrun w zs hz hh]
      exact ⟨β, h2⟩
  · rw [hw, if_neg (by simp)]
    exact ⟨β, h1.quiet G hi hdep hv (by rw [hl]; rfl) (fun g => by unfold into; rw [hl]) (Below.refl _ _)⟩

/-- The region, once for all orders. What the new blocks hold: 'nw'; what the old ones hold: 'ol'. -/
theorem region {id : Nat} {Q : Exit → Act → World → Prop} (hm : P.follows .mixedOrders = true) (G : Set P om tab ops a0 S B0 w0 olds) (h0 : S w0) (hd : w0 = w.drew)
    (hol : ∀ p zs, (p, zs) ∈ olds → Holds (om p) zs w0)
    (hend : ∀ β w', S w' → w0.heap.size ≤ w'.heap.size → Below B0 w0 w' →
      (∀ i zs, newOf (look tab i) = some zs → w0.heap.size ≤ β i ∧ β i < w'.heap.size ∧ Holds (β i) (cur tab (fun _ => true) (.own i) zs) w') →
      (∀ i j zi zj, newOf (look tab i) = some zi → newOf (look tab j) = some zj → i ≠ j → β i ≠ β j) →
      (∀ p zs, (p, zs) ∈ olds → Holds (om p) (cur tab (fun _ => true) (.old p) zs) w') → Q .normal (fin P om tab ops a0 β) w') : (Code.region id ops true).wp P Q a0 w := by
  subst hd
  refine Takes.wp_region_inv hm (fun L a w' => ∃ β, Inv P om tab ops a0 S B0 w.drew olds β L a w') ?_ ?_ ?_ (formed_sel G.F).1
  · refine ⟨fun _ => 0, ⟨rfl, rfl, fun d hd => ?_, h0, Nat.le_refl _, Below.refl _ _, fun i zs _ h => (by cases h), fun i j zi zj _ _ h => (by cases h), fun p zs hp => ?_, fun i o j _ h => (by cases h)⟩⟩
    · have hno : ∀ j ∈ writers ops d, j < 0 := fun j hj => by cases hd j hj
      rw [← plan_eval (G.pl _) ops.size 0 (by omega) hno]
      rfl
    · have : cur tab (fun _ => false) (.old p) zs = zs := by
        unfold cur
        split <;> rfl
      rw [this]
      exact hol p zs hp
  · rintro L a w' i o hi hL hdep hI
    exact Inv.next G (Q := Q) hi hL (fun j hj => by obtain ⟨e, he, hb, rfl⟩ := waits_spec hj; exact hdep e he hb) hI
  · rintro L a w' hall ⟨β, h⟩
    have hcur : ∀ g zs, cur tab L g zs = cur tab (fun _ => true) g zs := fun g zs => by
      unfold cur
      split
      · rename_i k hk
        obtain ⟨e, he⟩ := puts_mem hk
        rw [hall k (tidy_lt G.ty he)]
      · rfl
    have hnew : ∀ i zs, newOf (look tab i) = some zs → L i = true := fun i zs hi => by
      cases hl : look tab i with
      | none => rw [hl] at hi; cases hi
      | some e =>
        obtain ⟨e', he⟩ := look_mem hl
        exact hall i (tidy_lt G.ty he)
    have hq := hend β w' h.s h.hz h.b (fun i zs hi => by rw [← hcur]; exact h.nw i zs hi (hnew i zs hi)) (fun i j zi zj hi hj hne => h.ne i j zi zj hi hj (hnew i zi hi) (hnew j zj hj) hne) (fun p zs hp => by rw [← hcur]; exact h.ol p zs hp)
    have ez : a.tmps.size = (fin P om tab ops a0 β).tmps.size := by rw [h.z]; exact (plan_size (G.pl β) ops.size (Nat.le_refl _)).symm
    have et : a.tmps = (fin P om tab ops a0 β).tmps := by
      refine Array.ext ez fun d h1 h2 => ?_
      have h3 := h.t d (fun j hj => by obtain ⟨o, ho, _⟩ := mem_writers.1 hj; exact hall j (Array.getElem?_eq_some_iff.1 ho).1)
      unfold Act.eval at h3
      simp only [Array.getD_eq_getD_getElem?] at h3
      rwa [Array.getElem?_eq_getElem h1, Array.getElem?_eq_getElem h2] at h3
    have ed : a.defers = (fin P om tab ops a0 β).defers := by rw [h.d]; exact (plan_defers (G.pl β) ops.size (Nat.le_refl _)).symm
    have : a = fin P om tab ops a0 β := by
      cases a
      generalize fin P om tab ops a0 β = b at et ed
      cases b
      simp only at et ed
      rw [et, ed]
    rw [this]
    exact hq

/-- What each operation has left in its slot, in the order of the text. -/
def trace (ops : Array Oper) (a : Act) (n : Nat) : List (Tmp × Value) := (List.range n).filterMap fun i => ((ops[i]?).bind (·.dst)).map fun d => (d, a.eval (.tmp d))
def puts (a : Act) (l : List (Tmp × Value)) : Act := l.foldl (fun a p => a.put (some p.1) p.2) a
theorem fin_puts (hF : formed ops a0.tmps.size = true) (h : (plan P om tab ops a0 β ops.size).isSome = true) : ∀ n, n ≤ ops.size → (planD P om tab ops a0 β n).1 = puts a0 (trace ops (fin P om tab ops a0 β) n)
  | 0, _ => rfl
  | n + 1, hn => by
    have hi := Array.getElem?_eq_getElem (show n < ops.size by omega)
    obtain ⟨v, h1, _⟩ := plan_step h hi
    rw [h1, fin_puts hF h n (by omega)]
    unfold trace puts
    rw [List.range_succ, List.filterMap_append, List.foldl_append]
    cases hd : (ops[n]'(by omega)).dst with
    | none => simp [hi, hd, Act.put]
    | some d =>
      have := fin_dst hF h hi h1 hd
      simp [hi, hd, this]

/-- The region, once for all orders; what is left in the slots as a list. -/
theorem region_puts {id : Nat} {Q : Exit → Act → World → Prop} (hm : P.follows .mixedOrders = true) (G : Set P om tab ops a0 S B0 w0 olds) (h0 : S w0) (hd : w0 = w.drew)
    (hol : ∀ p zs, (p, zs) ∈ olds → Holds (om p) zs w0) (vs : (Nat → Nat) → List (Tmp × Value)) (hvs : ∀ β, trace ops (fin P om tab ops a0 β) ops.size = vs β)
    (hend : ∀ β w', S w' → w0.heap.size ≤ w'.heap.size → Below B0 w0 w' →
      (∀ i zs, newOf (look tab i) = some zs → w0.heap.size ≤ β i ∧ β i < w'.heap.size ∧ Holds (β i) (cur tab (fun _ => true) (.own i) zs) w') →
      (∀ i j zi zj, newOf (look tab i) = some zi → newOf (look tab j) = some zj → i ≠ j → β i ≠ β j) →
      (∀ p zs, (p, zs) ∈ olds → Holds (om p) (cur tab (fun _ => true) (.old p) zs) w') → Q .normal (puts a0 (vs β)) w') : (Code.region id ops true).wp P Q a0 w :=
  region hm G h0 hd hol fun β w' g1 g2 g3 g4 g5 g6 => by
    have := hend β w' g1 g2 g3 g4 g5 g6
    rw [← hvs, ← fin_puts G.F (G.pl β) ops.size (Nat.le_refl _)] at this
    exact this
end
end Go.Free
/- As FreeT, with calls: some answer what is told ahead, some what isn't. No condition on the program. -/
namespace Go.FreeU
open Go Go.RowKit Go.Free

/-- What an operation does to memory: nothing, and reads nothing; it reads; it turns it. -/
inductive Kind where
  | pure
  | read
  | eff
  | ask
  | get
/-- An operation's operands and answer, by the answers known by then. -/
structure Row where
  i : Nat
  xs : (Nat → Value) → List Value
  v : (Nat → Value) → Value
  k : Kind
def plain (tab : List Row) (β : Nat → Value) : List (Nat × Free.Ent) := tab.map fun x => (x.i, .gen (x.xs β) (x.v β))
def find : List Row → Nat → Option Row
  | [], _ => none
  | x :: r, i => if Nat.beq x.i i then some x else find r i
def upd (β : Nat → Value) (i : Nat) (v : Value) : Nat → Value := fun j => if j = i then v else β j
/-- Does an operation wait for another one, straight or by others? -/
def depB (ops : Array Oper) : Nat → Nat → Nat → Bool
  | 0, _, _ => false
  | n + 1, i, j => match ops[i]? with
    | none => false
    | some o => waits o j || (List.range ops.size).any fun k => waits o k && depB ops n k j
/-- What is known when an operation comes up: all that it waits for has come up, none that waits for it. -/
def Due (ops : Array Oper) (effs : List Nat) (i : Nat) (bs : List Bool) : Prop :=
  ∀ q j : Nat, effs[q]? = some j → (depB ops ops.size i j = true → bs[q]? = some true) ∧ ((depB ops ops.size j i = true ∨ j = i) → bs[q]? = some false)
def Does (P : Program) (effs : List Nat) (ops : Array Oper) (S : List Bool → (Nat → Value) → World → Prop) (x : Row) : Prop :=
  match x.k with
  | .pure => ∀ o, ops[x.i]? = some o → ∀ β (ρ : Operand → Value), o.op.operands.toList.map ρ = x.xs β → ∀ w, (execOp ρ o).run P w = .ok (.value (x.v β)) w
  | .read => ∀ o, ops[x.i]? = some o → ∀ β (ρ : Operand → Value), o.op.operands.toList.map ρ = x.xs β → ∀ bs w, S bs β w → Due ops effs x.i bs → (execOp ρ o).run P w = .ok (.value (x.v β)) w
  | .eff => (∀ β u, x.v (upd β x.i u) = u) ∧ ∃ p, effs[p]? = some x.i ∧ ∀ o, ops[x.i]? = some o → ∀ β (ρ : Operand → Value), o.op.operands.toList.map ρ = x.xs β → ∀ bs w, S bs β w → Due ops effs x.i bs → ∃ u w', (execOp ρ o).run P w = .ok (.value u) w' ∧ S (bs.set p true) (upd β x.i u) w'
  | .ask => ∀ o, ops[x.i]? = some o → ∀ β (ρ : Operand → Value), o.op.operands.toList.map ρ = x.xs β → ∀ bs w, S bs β w → Due ops effs x.i bs → ∃ f args, (execOp ρ o).run P w = .ok (.enter f args) w ∧ Calls P f args w fun e w' => e = .returned (x.v β) ∧ S bs β w'
  | .get => (∀ β u, x.v (upd β x.i u) = u) ∧ ∃ p, effs[p]? = some x.i ∧ ∀ o, ops[x.i]? = some o → ∀ β (ρ : Operand → Value), o.op.operands.toList.map ρ = x.xs β → ∀ bs w, S bs β w → Due ops effs x.i bs → ∃ f args, (execOp ρ o).run P w = .ok (.enter f args) w ∧ Calls P f args w fun e w' => ∃ u, e = .returned u ∧ S (bs.set p true) (upd β x.i u) w'
def AllDo (P : Program) (effs : List Nat) (ops : Array Oper) (S : List Bool → (Nat → Value) → World → Prop) : List Row → Prop
  | [] => True
  | x :: r => Does P effs ops S x ∧ AllDo P effs ops S r
theorem look_plain (β : Nat → Value) : ∀ (tab : List Row) (i : Nat), Free.look (plain tab β) i = (find tab i).map fun x => Free.Ent.gen (x.xs β) (x.v β)
  | [], _ => rfl
  | x :: r, i => by
    show (if Nat.beq x.i i then some (Free.Ent.gen (x.xs β) (x.v β)) else Free.look (plain r β) i) = _
    unfold find
    split
    · rfl
    · exact look_plain β r i
theorem find_i : ∀ {tab : List Row} {i : Nat} {x : Row}, find tab i = some x → x.i = i
  | [], _, _, h => by cases h
  | y :: r, i, x, h => by
    unfold find at h
    split at h
    · rename_i hj
      cases h
      simpa using hj
    · exact find_i h
theorem AllDo.get {P : Program} {effs : List Nat} {ops : Array Oper} {S : List Bool → (Nat → Value) → World → Prop} : ∀ {tab : List Row}, AllDo P effs ops S tab → ∀ {i x}, find tab i = some x → Does P effs ops S x
  | [], _, i, x, h => by cases h
  | y :: r, ha, i, x, h => by
    unfold find at h
    split at h
    · cases h
      exact ha.1
    · exact ha.2.get h

def rising : List Nat → Bool
  | s :: t :: r => Nat.blt s t && rising (t :: r)
  | _ => true
def isEff : Option Row → Bool
  | some ⟨_, _, _, .eff⟩ => true
  | some ⟨_, _, _, .get⟩ => true
  | _ => false
/-- The operations that turn memory are the listed ones. -/
def tidyT (tab : List Row) (effs : List Nat) (ops : Array Oper) : Bool :=
  rising effs && effs.all fun s => Nat.blt s ops.size && isEff (find tab s)
/-- Which answers an operation's answer hangs on: it waits for them, or it is one itself. -/
def hangs (vs : List (List Nat × (List Value → Value))) (ops : Array Oper) : Bool :=
  (List.range ops.size).all fun i => ((vs[i]?.map (·.1)).getD []).all fun k => Nat.beq k i || depB ops ops.size i k
def told (ops : Array Oper) (a : Act) (i : Nat) : Value := match (ops[i]?).bind (·.dst) with
  | some d => a.eval (.tmp d)
  | none => undef

def waitsAt (ops : Array Oper) (s i : Nat) : Bool := match ops[s]? with
  | some o => waits o i
  | none => false
/-- What the region must be like: each slot has one writer; who reads a slot waits for its writer, and stands behind it, or the writer waits for him, and stands behind him. -/
def formedT (ops : Array Oper) (size : Nat) : Bool :=
  Takes.forward ops && Region.noSelect ops && (List.range ops.size).all fun i => match ops[i]? with
    | none => false
    | some o => (match o.dst with
        | some d => Nat.blt d size && (writers ops d).all fun j => Nat.beq j i
        | none => true) &&
      (o.looksAt ops).all fun d => ((writers ops d).all fun j => Nat.blt j i && waits o j) || (writers ops d).all fun j => Nat.blt i j && waitsAt ops j i

section
variable (P : Program) (tab : List Row) (effs : List Nat) (ops : Array Oper) (a0 : Act) (S : List Bool → (Nat → Value) → World → Prop) (vs : List (List Nat × (List Value → Value)))
structure Inv (β : Nat → Value) (L : Nat → Bool) (a : Act) (w : World) : Prop where
  d : a.defers = a0.defers
  z : a.tmps.size = a0.tmps.size
  t : ∀ d, (∀ j ∈ writers ops d, L j = true) → a.eval (.tmp d) = (fin P (fun _ => 0) (plain tab β) ops a0 (fun _ => 0)).eval (.tmp d)
  u : ∀ d, (∀ j ∈ writers ops d, L j = false) → a.eval (.tmp d) = a0.eval (.tmp d)
  s : S (effs.map L) β w
  cl : ∀ i o j, ops[i]? = some o → L i = true → waits o j = true → L j = true
structure Set : Prop where
  F : formedT ops a0.tmps.size = true
  ok : AllDo P effs ops S tab
  pl : ∀ β, (plan P (fun _ => 0) (plain tab β) ops a0 (fun _ => 0) ops.size).isSome = true
  cs : ∀ β, (planD P (fun _ => 0) (plain tab β) ops a0 (fun _ => 0) ops.size).2.map (·.1) = (planD P (fun _ => 0) (plain tab β) ops a0 (fun _ => 0) ops.size).2.map (·.2)
  ty : tidyT tab effs ops = true
  vt : ∀ β, (List.range ops.size).map (told ops (fin P (fun _ => 0) (plain tab β) ops a0 (fun _ => 0))) = vs.map fun x => x.2 (x.1.map β)
  hg : hangs vs ops = true
end

section
variable {P : Program} {tab : List Row} {effs : List Nat} {ops : Array Oper} {a0 : Act} {S : List Bool → (Nat → Value) → World → Prop} {vs : List (List Nat × (List Value → Value))} {β : Nat → Value} {L : Nat → Bool} {a : Act} {w : World}

theorem formed_op {size i : Nat} {o : Oper} (h : formedT ops size = true) (hi : ops[i]? = some o) :
    (∀ d, o.dst = some d → d < size ∧ ∀ j ∈ writers ops d, j = i) ∧ ∀ d ∈ o.looksAt ops, (∀ j ∈ writers ops d, j < i ∧ waits o j = true) ∨ ∀ j ∈ writers ops d, i < j ∧ waitsAt ops j i = true := by
  unfold formedT at h
  simp only [Bool.and_eq_true, List.all_eq_true, List.mem_range] at h
  have h1 := h.2 i (Array.getElem?_eq_some_iff.1 hi).1
  simp only [hi, Bool.and_eq_true, List.all_eq_true] at h1
  refine ⟨fun d hd => ?_, fun d hd => ?_⟩
  · have h2 := h1.1
    simp only [hd, Bool.and_eq_true, List.all_eq_true] at h2
    exact ⟨by simpa using h2.1, fun j hj => by simpa using h2.2 j hj⟩
  · have h2 := h1.2 d hd
    rw [Bool.or_eq_true, List.all_eq_true, List.all_eq_true] at h2
    rcases h2 with h2 | h2
    · exact .inl fun j hj => by
        have := h2 j hj
        rw [Bool.and_eq_true] at this
        exact ⟨by simpa using this.1, this.2⟩
    · exact .inr fun j hj => by
        have := h2 j hj
        rw [Bool.and_eq_true] at this
        exact ⟨by simpa using this.1, this.2⟩
theorem formed_sel {size : Nat} (h : formedT ops size = true) : Takes.forward ops = true ∧ Region.noSelect ops = true := by
  unfold formedT at h
  simp only [Bool.and_eq_true] at h
  exact h.1
section
variable {T : List (Nat × Free.Ent)}
theorem plan_pre (h : (plan P (fun _ => 0) T ops a0 (fun _ => 0) ops.size).isSome = true) {d : Tmp} : ∀ i, i ≤ ops.size → (∀ j ∈ writers ops d, i ≤ j) → (planD P (fun _ => 0) T ops a0 (fun _ => 0) i).1.eval (.tmp d) = a0.eval (.tmp d)
  | 0, _, _ => rfl
  | i + 1, hi, hd => by
    obtain ⟨v, h1, _⟩ := plan_step h (Array.getElem?_eq_getElem (show i < ops.size by omega))
    rw [h1, eval_put_ne, plan_pre h i (by omega) (fun j hj => by have := hd j hj; omega)]
    intro hn
    have := hd i (mem_writers.2 ⟨_, Array.getElem?_eq_getElem (by omega), hn⟩)
    omega
theorem fin_dst (hF : formedT ops a0.tmps.size = true) (h : (plan P (fun _ => 0) T ops a0 (fun _ => 0) ops.size).isSome = true) {i : Nat} {o : Oper} (hi : ops[i]? = some o) {v : Value} (hv : (planD P (fun _ => 0) T ops a0 (fun _ => 0) (i + 1)).1 = (planD P (fun _ => 0) T ops a0 (fun _ => 0) i).1.put o.dst v) {d : Tmp} (hd : o.dst = some d) :
    (fin P (fun _ => 0) T ops a0 (fun _ => 0)).eval (.tmp d) = v := by
  have hlt : i < ops.size := (Array.getElem?_eq_some_iff.1 hi).1
  obtain ⟨h1, h2⟩ := (formed_op hF hi).1 d hd
  rw [← plan_eval h (ops.size - (i + 1)) (i + 1) (by omega) (fun j hj => by have := h2 j hj; omega), hv, hd, eval_put_eq]
  rw [plan_size h i (by omega)]
  exact h1
theorem fin_puts (hF : formedT ops a0.tmps.size = true) (h : (plan P (fun _ => 0) T ops a0 (fun _ => 0) ops.size).isSome = true) : ∀ n, n ≤ ops.size → (planD P (fun _ => 0) T ops a0 (fun _ => 0) n).1 = puts a0 (trace ops (fin P (fun _ => 0) T ops a0 (fun _ => 0)) n)
  | 0, _ => rfl
  | n + 1, hn => by
    have hi := Array.getElem?_eq_getElem (show n < ops.size by omega)
    obtain ⟨v, h1, _⟩ := plan_step h hi
    rw [h1, fin_puts hF h n (by omega)]
    unfold trace puts
    rw [List.range_succ, List.filterMap_append, List.foldl_append]
    cases hd : (ops[n]'(by omega)).dst with
    | none => simp [hi, hd, Act.put]
    | some d =>
      have := fin_dst hF h hi h1 hd
      simp [hi, hd, this]
end
theorem upd_same (i : Nat) (v : Value) : upd β i v i = v := if_pos rfl
theorem upd_ne {i j : Nat} (h : j ≠ i) (v : Value) : upd β i v j = β j := if_neg h
theorem dep_listed (hcl : ∀ i o j, ops[i]? = some o → L i = true → waits o j = true → L j = true) : ∀ n i j, depB ops n i j = true → L i = true → L j = true
  | 0, _, _, h, _ => by cases h
  | n + 1, i, j, h, hL => by
    unfold depB at h
    split at h
    · cases h
    · rename_i o ho
      rw [Bool.or_eq_true, List.any_eq_true] at h
      rcases h with h | ⟨k, _, h⟩
      · exact hcl i o j ho hL h
      · rw [Bool.and_eq_true] at h
        exact dep_listed hcl n k j h.2 (hcl i o k ho hL h.1)
theorem dep_due (hcl : ∀ i o j, ops[i]? = some o → L i = true → waits o j = true → L j = true) {i : Nat} {o : Oper} (hi : ops[i]? = some o) (hdep : ∀ j, waits o j = true → L j = true) : ∀ n j, depB ops n i j = true → L j = true
  | 0, _, h => by cases h
  | n + 1, j, h => by
    unfold depB at h
    rw [hi] at h
    simp only at h
    rw [Bool.or_eq_true, List.any_eq_true] at h
    rcases h with h | ⟨k, _, h⟩
    · exact hdep j h
    · rw [Bool.and_eq_true] at h
      exact dep_listed hcl n k j h.2 (hdep k h.1)
theorem rising_ne : ∀ {effs : List Nat}, rising effs = true → ∀ {p q i : Nat}, effs[p]? = some i → effs[q]? = some i → p = q := by
  have lt : ∀ (effs : List Nat), rising effs = true → ∀ n p s t, effs[p]? = some s → effs[p + 1 + n]? = some t → s < t := by
    intro effs
    induction effs with
    | nil => intro _ n p s t h; simp at h
    | cons x r ih =>
      intro hr n p s t h1 h2
      cases r with
      | nil => simp at h2
      | cons y r =>
        unfold rising at hr
        simp only [Bool.and_eq_true] at hr
        have hxy : x < y := by simpa using hr.1
        cases p with
        | succ p =>
          rw [show p + 1 + 1 + n = (p + 1 + n) + 1 by omega, List.getElem?_cons_succ] at h2
          exact ih hr.2 n p s t (by simpa using h1) h2
        | zero =>
          simp at h1
          subst h1
          cases n with
          | zero =>
            simp at h2
            omega
          | succ n =>
            rw [show 0 + 1 + (n + 1) = (n + 1) + 1 by omega, List.getElem?_cons_succ] at h2
            have := ih hr.2 n 0 y t (by simp) (by rw [show 0 + 1 + n = n + 1 by omega]; exact h2)
            omega
  intro effs hr p q i h1 h2
  rcases Nat.lt_trichotomy p q with h | h | h
  · have := lt effs hr (q - (p + 1)) p i i h1 (by rw [show p + 1 + (q - (p + 1)) = q by omega]; exact h2)
    omega
  · exact h
  · have := lt effs hr (p - (q + 1)) q i i h2 (by rw [show q + 1 + (p - (q + 1)) = p by omega]; exact h1)
    omega
theorem told_eff (h : tidyT tab effs ops = true) {s : Nat} (hs : s ∈ effs) : s < ops.size ∧ isEff (find tab s) = true := by
  unfold tidyT at h
  simp only [Bool.and_eq_true, List.all_eq_true] at h
  have := h.2 s hs
  exact ⟨by simpa using this.1, this.2⟩
theorem map_other {i : Nat} (h : ∀ s ∈ effs, s ≠ i) : effs.map (fun j => j == i || L j) = effs.map L :=
  List.map_congr_left fun s hs => by simp [h s hs]
theorem map_set (hr : rising effs = true) {p i : Nat} (hp : effs[p]? = some i) : effs.map (fun j => j == i || L j) = (effs.map L).set p true := by
  refine List.ext_getElem? fun q => ?_
  rw [List.getElem?_set, List.getElem?_map, List.getElem?_map]
  by_cases hq : p = q
  · subst hq
    rw [if_pos rfl, hp]
    have := (List.getElem?_eq_some_iff.1 hp).1
    simp [this]
  · rw [if_neg hq]
    cases he : effs[q]? with
    | none => rfl
    | some j =>
      have hj : j ≠ i := by
        rintro rfl
        exact hq (rising_ne hr hp he)
      simp [hj]
theorem hangs_at (h : hangs vs ops = true) {i : Nat} (hi : i < ops.size) {x : List Nat × (List Value → Value)} (hx : vs[i]? = some x) : ∀ k ∈ x.1, k = i ∨ depB ops ops.size i k = true := by
  intro k hk
  unfold hangs at h
  rw [List.all_eq_true] at h
  have h1 := h i (List.mem_range.2 hi)
  rw [hx] at h1
  simp only [Option.map_some, Option.getD_some, List.all_eq_true] at h1
  have := h1 k hk
  rw [Bool.or_eq_true] at this
  rcases this with h2 | h2
  · exact .inl (by simpa using h2)
  · exact .inr h2
theorem fin_told (G : Set P tab effs ops a0 S vs) (β : Nat → Value) {j : Nat} {o : Oper} {d : Tmp} (hj : ops[j]? = some o) (hd : o.dst = some d) : ∃ x, vs[j]? = some x ∧ (fin P (fun _ => 0) (plain tab β) ops a0 (fun _ => 0)).eval (.tmp d) = x.2 (x.1.map β) := by
  have hlt := (Array.getElem?_eq_some_iff.1 hj).1
  have h := congrArg (fun l => l[j]?) (G.vt β)
  simp only [List.getElem?_map, List.getElem?_range hlt, Option.map_some] at h
  cases hx : vs[j]? with
  | none => rw [hx] at h; cases h
  | some x =>
    rw [hx] at h
    simp only [Option.map_some, Option.some.injEq] at h
    refine ⟨x, rfl, ?_⟩
    rw [← h]
    unfold told
    rw [hj]
    simp [hd]
/-- An answer that isn't there yet may be whatever it is. -/
theorem turn_eval (G : Set P tab effs ops a0 S vs) (h : Inv P tab effs ops a0 S β L a w) {i : Nat} (hi : L i = false) (u : Value) (d : Tmp) (hd : ∀ j ∈ writers ops d, L j = true) : a.eval (.tmp d) = (fin P (fun _ => 0) (plain tab (upd β i u)) ops a0 (fun _ => 0)).eval (.tmp d) := by
  rw [h.t d hd]
  by_cases hw : ∃ j, j ∈ writers ops d
  · obtain ⟨j, hj⟩ := hw
    obtain ⟨o, ho, hod⟩ := mem_writers.1 hj
    obtain ⟨x, hx, e1⟩ := fin_told G β ho hod
    obtain ⟨y, hy, e2⟩ := fin_told G (upd β i u) ho hod
    rw [hx] at hy
    cases hy
    rw [e1, e2]
    refine congrArg x.2 (List.map_congr_left fun k hk => ?_)
    have hLj := hd j hj
    have hki : k ≠ i := by
      rintro rfl
      rcases hangs_at G.hg (Array.getElem?_eq_some_iff.1 ho).1 hx k hk with e | e
      · rw [e, hLj] at hi; cases hi
      · rw [dep_listed h.cl _ _ _ e hLj] at hi; cases hi
    exact (upd_ne hki u).symm
  · have hno : ∀ j ∈ writers ops d, j < 0 := fun j hj => absurd ⟨j, hj⟩ hw
    rw [← plan_eval (G.pl β) ops.size 0 (by omega) hno, ← plan_eval (G.pl _) ops.size 0 (by omega) hno]
    rfl

theorem same_eval (G : Set P tab effs ops a0 S vs) (h : Inv P tab effs ops a0 S β L a w) {i : Nat} {o : Oper} (hi : ops[i]? = some o) (hL : L i = false) (hdep : ∀ j, waits o j = true → L j = true) {d : Tmp} (hd : d ∈ o.looksAt ops) :
    a.eval (.tmp d) = (planD P (fun _ => 0) (plain tab β) ops a0 (fun _ => 0) i).1.eval (.tmp d) := by
  have hlt : i < ops.size := (Array.getElem?_eq_some_iff.1 hi).1
  rcases (formed_op G.F hi).2 d hd with hw | hw
  · rw [h.t d (fun j hj => hdep j (hw j hj).2), plan_eval (G.pl β) (ops.size - i) i (by omega) (fun j hj => (hw j hj).1)]
  · rw [plan_pre (G.pl β) i (by omega) (fun j hj => by have := (hw j hj).1; omega)]
    refine h.u d fun j hj => ?_
    cases hq : L j with
    | false => rfl
    | true =>
      have h2 := (hw j hj).2
      unfold waitsAt at h2
      split at h2
      · rename_i o' ho'
        rw [h.cl j o' i ho' hq h2] at hL
        cases hL
      · cases h2
theorem same_op (G : Set P tab effs ops a0 S vs) (h : Inv P tab effs ops a0 S β L a w) {i : Nat} {o : Oper} (hi : ops[i]? = some o) (hL : L i = false) (hdep : ∀ j, waits o j = true → L j = true) :
    execOp a.eval o = execOp (planD P (fun _ => 0) (plain tab β) ops a0 (fun _ => 0) i).1.eval o :=
  execOp_congr o (fun cs b => Region.noSelect_spec (formed_sel G.F).2 i o cs b hi) fun x hx => by
    cases x with
    | tmp d => exact same_eval G h hi hL hdep (List.mem_append_left _ (List.mem_filterMap.2 ⟨.tmp d, by simpa using hx, rfl⟩))
    | _ => rfl
theorem same_wanted (G : Set P tab effs ops a0 S vs) (h : Inv P tab effs ops a0 S β L a w) {i : Nat} {o : Oper} (hi : ops[i]? = some o) (hL : L i = false) (hdep : ∀ j, waits o j = true → L j = true) :
    Region.wanted o (yielded ops a.tmps) = Region.wanted o (yielded ops (planD P (fun _ => 0) (plain tab β) ops a0 (fun _ => 0) i).1.tmps) := by
  have hlt : i < ops.size := (Array.getElem?_eq_some_iff.1 hi).1
  unfold Region.wanted
  cases hg : o.guard with
  | none => rfl
  | some gw =>
    obtain ⟨g, want⟩ := gw
    have hy : yielded ops a.tmps g = yielded ops (planD P (fun _ => 0) (plain tab β) ops a0 (fun _ => 0) i).1.tmps g := by
      unfold yielded
      cases ht : (ops[g]?).bind (·.dst) with
      | none => rfl
      | some t =>
        have h1 := same_eval G h hi hL hdep (d := t) (List.mem_append_right _ (by simp [hg, ht]))
        have hz : a.tmps.size = (planD P (fun _ => 0) (plain tab β) ops a0 (fun _ => 0) i).1.tmps.size := by rw [h.z, plan_size (G.pl β) i (by omega)]
        simp only [Option.bind_some]
        unfold Act.eval at h1
        simp only [Array.getD_eq_getD_getElem?] at h1
        by_cases hlt2 : t < a.tmps.size
        · rw [Array.getElem?_eq_getElem hlt2, Array.getElem?_eq_getElem (Nat.lt_of_lt_of_eq hlt2 hz)] at h1 ⊢
          simp only [Option.getD_some] at h1
          rw [h1]
        · rw [Array.getElem?_eq_none (Nat.not_lt.1 hlt2), Array.getElem?_eq_none (Nat.le_trans (Nat.le_of_eq hz.symm) (Nat.not_lt.1 hlt2))]
    simp only [hy]

theorem Inv.on (G : Set P tab effs ops a0 S vs) (h : Inv P tab effs ops a0 S β L a w) {i : Nat} {o : Oper} (hi : ops[i]? = some o) (hdep : ∀ j, waits o j = true → L j = true) {γ : Nat → Value} (hγ : ∀ d, (∀ j ∈ writers ops d, L j = true) → a.eval (.tmp d) = (fin P (fun _ => 0) (plain tab γ) ops a0 (fun _ => 0)).eval (.tmp d))
    {v : Value} (hv : (planD P (fun _ => 0) (plain tab γ) ops a0 (fun _ => 0) (i + 1)).1 = (planD P (fun _ => 0) (plain tab γ) ops a0 (fun _ => 0) i).1.put o.dst v)
    {w' : World} (hs : S (effs.map (fun j => j == i || L j)) γ w') : Inv P tab effs ops a0 S γ (fun j => j == i || L j) (a.put o.dst v) w' where
  d := by rw [← h.d]; cases o.dst <;> rfl
  z := by rw [size_put]; exact h.z
  t := fun d hd => by
    by_cases e : o.dst = some d
    · rw [fin_dst G.F (G.pl γ) hi hv e, e, eval_put_eq]
      rw [h.z]
      exact ((formed_op G.F hi).1 d e).1
    · rw [eval_put_ne e]
      refine hγ d fun j hj => ?_
      have := hd j hj
      rwa [lor_ne] at this
      rintro rfl
      obtain ⟨o', ho, hod⟩ := mem_writers.1 hj
      rw [hi] at ho
      cases ho
      exact e hod
  u := fun d hd => by
    have hne : o.dst ≠ some d := fun e => by
      have := hd i (mem_writers.2 ⟨o, hi, e⟩)
      simp at this
    rw [eval_put_ne hne]
    refine h.u d fun j hj => ?_
    have := hd j hj
    rw [Bool.or_eq_false_iff] at this
    exact this.2
  s := hs
  cl := fun j o' k hj hl hk => by
    by_cases e : j = i
    · subst e
      rw [hi] at hj
      cases hj
      exact lor_of (hdep k hk)
    · exact lor_of (h.cl j o' k hj (by simpa [e] using hl) hk)

theorem Inv.next (G : Set P tab effs ops a0 S vs) {Q : Exit → Act → World → Prop} {i : Nat} {o : Oper} (hi : ops[i]? = some o) (hL : L i = false) (hdep : ∀ j, waits o j = true → L j = true) (h : ∃ β, Inv P tab effs ops a0 S β L a w) :
    if Region.wanted o (yielded ops a.tmps) = true then o.wp P a w (fun a' w' => ∃ β, Inv P tab effs ops a0 S β (fun j => j == i || L j) a' w') Q else ∃ β, Inv P tab effs ops a0 S β (fun j => j == i || L j) (a.put o.dst undef) w := by
  have hlt : i < ops.size := (Array.getElem?_eq_some_iff.1 hi).1
  obtain ⟨β, h⟩ := h
  obtain ⟨v, hv, hmore, hcase⟩ := plan_step (G.pl β) hi
  have calm : isEff (find tab i) = false → ∀ w', S (effs.map L) β w' → S (effs.map (fun j => j == i || L j)) β w' := fun hn w' hs => by
    rw [map_other]
    · exact hs
    · rintro s hse rfl
      rw [(told_eff G.ty hse).2] at hn
      cases hn
  have due : Due ops effs i (effs.map L) := fun q j hq => by
    rw [List.getElem?_map, hq]
    refine ⟨fun hd => by rw [Option.map_some, dep_due h.cl hi hdep _ _ hd], fun hd => ?_⟩
    rw [Option.map_some]
    congr 1
    rcases hd with hd | rfl
    · cases hq2 : L j with
      | false => rfl
      | true =>
        rw [dep_listed h.cl _ _ _ hd hq2] at hL
        cases hL
    · exact hL
  rw [same_wanted G h hi hL hdep]
  rcases hcase with ⟨hw, cs, hr, hcs⟩ | ⟨hw, hl, rfl⟩
  · rw [if_pos hw]
    have hc : ∀ c ∈ cs, c.1 = c.2 := fun c hc => Takes.all_eq (G.cs β) c (plan_more (G.pl β) (ops.size - (i + 1)) (i + 1) (by omega) c (hcs c hc))
    unfold Oper.wp
    rw [same_op G h hi hL hdep]
    generalize hα : (planD P (fun _ => 0) (plain tab β) ops a0 (fun _ => 0) i).1 = α at hr
    have hv2 : ∀ v', v = v' → (planD P (fun _ => 0) (plain tab β) ops a0 (fun _ => 0) (i + 1)).1 = (planD P (fun _ => 0) (plain tab β) ops a0 (fun _ => 0) i).1.put o.dst v' := fun v' e => by rw [← e]; exact hv
    unfold res at hr
    rw [look_plain] at hr
    cases hf : find tab i with
    | none =>
      rw [hf] at hr
      simp only [Option.map_none] at hr
      obtain ⟨v', hv', he⟩ := Option.map_eq_some_iff.1 hr
      cases he
      rw [Takes.val_ok hv' w]
      exact ⟨β, h.on G hi hdep h.t (hv2 _ rfl) (calm (by rw [hf]; rfl) _ h.s)⟩
    | some x =>
      have hxi := find_i hf
      have hdo := G.ok.get hf
      obtain ⟨i', xs, vf, k⟩ := x
      simp only at hxi
      subst hxi
      rw [hf] at hr
      simp only [Option.map_some] at hr
      cases hr
      have hx := agg_inj (hc (.agg (o.op.operands.toList.map α.eval).toArray, .agg (xs β).toArray) (List.mem_singleton.2 rfl))
      have hx2 : o.op.operands.toList.map α.eval = xs β := List.toArray_inj hx
      cases k with
      | pure =>
        rw [hdo o hi β α.eval hx2 w]
        exact ⟨β, h.on G hi hdep h.t (hv2 _ rfl) (calm (by rw [hf]; rfl) _ h.s)⟩
      | read =>
        rw [hdo o hi β α.eval hx2 _ w h.s due]
        exact ⟨β, h.on G hi hdep h.t (hv2 _ rfl) (calm (by rw [hf]; rfl) _ h.s)⟩
      | eff =>
        obtain ⟨hu, p, hp, hd⟩ := hdo
        obtain ⟨u, w', h1, h2⟩ := hd o hi β α.eval hx2 _ w h.s due
        rw [h1]
        obtain ⟨v2, hv3, _, hcase2⟩ := plan_step (G.pl (upd β i' u)) hi
        have hv4 : v2 = u := by
          rcases hcase2 with ⟨_, cs2, hr2, _⟩ | ⟨_, hl, _⟩
          · unfold res at hr2
            rw [look_plain, hf] at hr2
            simp only [Option.map_some] at hr2
            cases hr2
            exact hu β u
          · rw [look_plain, hf] at hl
            cases hl
        rw [hv4] at hv3
        refine ⟨upd β i' u, h.on G hi hdep (fun d hd => turn_eval G h hL u d hd) hv3 ?_⟩
        have hr0 := G.ty
        unfold tidyT at hr0
        rw [Bool.and_eq_true] at hr0
        rw [map_set hr0.1 hp]
        exact h2
      | ask =>
        obtain ⟨f, args, h1, h2⟩ := hdo o hi β α.eval hx2 _ w h.s due
        rw [h1]
        simp only [Oper.upon]
        refine h2.mono fun e w' he => ?_
        obtain ⟨rfl, hs⟩ := he
        exact ⟨β, h.on G hi hdep h.t (hv2 _ rfl) (calm (by rw [hf]; rfl) _ hs)⟩
      | get =>
        obtain ⟨hu, p, hp, hd⟩ := hdo
        obtain ⟨f, args, h1, h2⟩ := hd o hi β α.eval hx2 _ w h.s due
        rw [h1]
        simp only [Oper.upon]
        refine h2.mono fun e w' he => ?_
        obtain ⟨u, rfl, h2⟩ := he
        obtain ⟨v2, hv3, _, hcase2⟩ := plan_step (G.pl (upd β i' u)) hi
        have hv4 : v2 = u := by
          rcases hcase2 with ⟨_, cs2, hr2, _⟩ | ⟨_, hl, _⟩
          · unfold res at hr2
            rw [look_plain, hf] at hr2
            simp only [Option.map_some] at hr2
            cases hr2
            exact hu β u
          · rw [look_plain, hf] at hl
            cases hl
        rw [hv4] at hv3
        refine ⟨upd β i' u, h.on G hi hdep (fun d hd => turn_eval G h hL u d hd) hv3 ?_⟩
        have hr0 := G.ty
        unfold tidyT at hr0
        rw [Bool.and_eq_true] at hr0
        rw [map_set hr0.1 hp]
        exact h2
  · rw [hw, if_neg (by simp)]
    rw [look_plain] at hl
    have hn : find tab i = none := by
      cases hf : find tab i with
      | none => rfl
      | some x => rw [hf] at hl; cases hl
    exact ⟨β, h.on G hi hdep h.t hv (calm (by rw [hn]; rfl) _ h.s)⟩

/-- The region, once for all orders. -/
theorem region_puts {id : Nat} {Q : Exit → Act → World → Prop} (hm : P.follows .mixedOrders = true) (G : Set P tab effs ops a0 S vs) (h0 : S (effs.map fun _ => false) (fun _ => undef) w.drew) (ps : (Nat → Value) → List (Tmp × Value)) (hps : ∀ β, trace ops (fin P (fun _ => 0) (plain tab β) ops a0 (fun _ => 0)) ops.size = ps β)
    (hend : ∀ β w', S (effs.map fun _ => true) β w' → Q .normal (puts a0 (ps β)) w') : (Code.region id ops true).wp P Q a0 w := by
  refine Takes.wp_region_inv hm (fun L a w' => ∃ β, Inv P tab effs ops a0 S β L a w') ?_ ?_ ?_ (formed_sel G.F).1
  · refine ⟨fun _ => undef, rfl, rfl, fun d hd => ?_, fun _ _ => rfl, h0, fun i o j _ h => (by cases h)⟩
    have hno : ∀ j ∈ writers ops d, j < 0 := fun j hj => by cases hd j hj
    rw [← plan_eval (G.pl _) ops.size 0 (by omega) hno]
    rfl
  · rintro L a w' i o hi hL hdep hI
    exact Inv.next G (Q := Q) hi hL (fun j hj => by obtain ⟨e, he, hb, rfl⟩ := waits_spec hj; exact hdep e he hb) hI
  · rintro L a w' hall ⟨β, h⟩
    have hs := h.s
    rw [List.map_congr_left (g := fun _ => true) fun s hs => hall s (told_eff G.ty hs).1] at hs
    have hq := hend β w' hs
    rw [← hps, ← fin_puts G.F (G.pl β) ops.size (Nat.le_refl _)] at hq
    have ez : a.tmps.size = (fin P (fun _ => 0) (plain tab β) ops a0 (fun _ => 0)).tmps.size := by rw [h.z]; exact (plan_size (G.pl β) ops.size (Nat.le_refl _)).symm
    have et : a.tmps = (fin P (fun _ => 0) (plain tab β) ops a0 (fun _ => 0)).tmps := by
      refine Array.ext ez fun d h1 h2 => ?_
      have h3 := h.t d (fun j hj => by obtain ⟨o, ho, _⟩ := mem_writers.1 hj; exact hall j (Array.getElem?_eq_some_iff.1 ho).1)
      unfold Act.eval at h3
      simp only [Array.getD_eq_getD_getElem?] at h3
      rwa [Array.getElem?_eq_getElem h1, Array.getElem?_eq_getElem h2] at h3
    have ed : a.defers = (fin P (fun _ => 0) (plain tab β) ops a0 (fun _ => 0)).defers := by rw [h.d]; exact (plan_defers (G.pl β) ops.size (Nat.le_refl _)).symm
    have : a = fin P (fun _ => 0) (plain tab β) ops a0 (fun _ => 0) := by
      cases a
      generalize fin P (fun _ => 0) (plain tab β) ops a0 (fun _ => 0) = b at et ed
      cases b
      simp only at et ed
      rw [et, ed]
    rw [this]
    exact hq
end
end Go.FreeU
/- What single operations do, for FreeU's tables: calls among them. No condition. -/
namespace Go.Free
open Go
/-- Values for slots that stand one behind the other. -/
def from_ : Nat → List Value → List (Tmp × Value)
  | _, [] => []
  | k, v :: r => (k, v) :: from_ (k + 1) r
theorem puts_from : ∀ (vs : List Value) (k : Nat) (a : Act), k + vs.length ≤ a.tmps.size → puts a (from_ k vs) = { a with tmps := (a.tmps.toList.take k ++ vs ++ a.tmps.toList.drop (k + vs.length)).toArray }
  | [], k, a, _ => by
    show a = _
    cases a
    simp
  | v :: r, k, a, h => by
    rw [List.length_cons] at h
    have ih := puts_from r (k + 1) (a.put (some k) v) (by rw [size_put]; omega)
    show puts (a.put (some k) v) (from_ (k + 1) r) = _
    rw [ih]
    obtain ⟨ts, ds⟩ := a
    simp only [Act.put, Array.toList_setIfInBounds, Act.mk.injEq, and_true] at h ⊢
    congr 1
    have hk : k < ts.toList.length := by rw [Array.length_toList]; omega
    rw [List.take_succ_eq_append_getElem (by rw [List.length_set]; exact hk), List.getElem_set_self, List.take_set_of_le (Nat.le_refl k), List.drop_set_of_lt (by omega), List.length_cons, show k + 1 + r.length = k + (r.length + 1) by omega]
    simp
end Go.Free
namespace Go.FreeX
open Go Go.Free
theorem puts_append (a : Act) (x y : List (Tmp × Value)) : puts a (x ++ y) = puts (puts a x) y := List.foldl_append
end Go.FreeX
namespace Go.FreeU
open Go Go.RowKit Go.Free Go.Op
section
variable {P : Program} {effs : List Nat} {ops : Array Oper} {S : List Bool → (Nat → Value) → World → Prop} {i : Nat} (o0 : Oper) (ho : ops[i]? = some o0)
include ho
theorem d_at {T : TypeId} {x y : Operand} (hop : o0.op = .indexAddr T x y) {vs vi v : (Nat → Value) → Value} (h : ∀ β w, (Instr.indexAt T (vs β) (vi β)).run P w = .ok (v β) w) : Does P effs ops S ⟨i, fun β => [vs β, vi β], v, .pure⟩ := by
  rintro o h1 β ρ h2 w
  rw [ho] at h1
  cases h1
  rw [hop] at h2
  simp [Op.operands] at h2
  simp [execOp, hop, h2.1, h2.2, h]
theorem d_bin {op : BinOp} {T R : TypeId} {x y : Operand} (hop : o0.op = .binOp op T x y R) {vx vy v : (Nat → Value) → Value} (h : ∀ β xo yo w, (eqGuard op T xo yo (vx β) (vy β)).run P w = .ok () w ∧ (binOp op T (vx β) (vy β)).run P w = .ok (v β) w) : Does P effs ops S ⟨i, fun β => [vx β, vy β], v, .pure⟩ := by
  rintro o h1 β ρ h2 w
  rw [ho] at h1
  cases h1
  rw [hop] at h2
  simp [Op.operands] at h2
  obtain ⟨g1, g2⟩ := h β x y w
  simp [execOp, hop, h2.1, h2.2, g1, g2]
theorem d_hi {T : TypeId} {x y : Operand} (hop : o0.op = .slice T x none (some y) none) {vx vy v : (Nat → Value) → Value} (h : ∀ β w, (Instr.sliceAt T (vx β) none (some (vy β)) none).run P w = .ok (v β) w) : Does P effs ops S ⟨i, fun β => [vx β, vy β], v, .pure⟩ := by
  rintro o h1 β ρ h2 w
  rw [ho] at h1
  cases h1
  rw [hop] at h2
  simp [Op.operands] at h2
  simp [execOp, hop, h2.1, h2.2, h]
theorem d_lo {T : TypeId} {x y : Operand} (hop : o0.op = .slice T x (some y) none none) {vx vy v : (Nat → Value) → Value} (h : ∀ β w, (Instr.sliceAt T (vx β) (some (vy β)) none none).run P w = .ok (v β) w) : Does P effs ops S ⟨i, fun β => [vx β, vy β], v, .pure⟩ := by
  rintro o h1 β ρ h2 w
  rw [ho] at h1
  cases h1
  rw [hop] at h2
  simp [Op.operands] at h2
  simp [execOp, hop, h2.1, h2.2, h]
theorem d_load {T : TypeId} {x : Operand} (hop : o0.op = .load T x) {p v : (Nat → Value) → Value} (h : ∀ β bs w, S bs β w → Due ops effs i bs → (Instr.loadAt T (p β)).run P w = .ok (v β) w) : Does P effs ops S ⟨i, fun β => [p β], v, .read⟩ := by
  rintro o h1 β ρ h2 bs w hS hD
  rw [ho] at h1
  cases h1
  rw [hop] at h2
  simp [Op.operands] at h2
  simp [execOp, hop, h2, h β bs w hS hD]
theorem d_row0 {T : TypeId} (hop : o0.op = .buildSlice T 0 #[]) (p : Nat) (hp : effs[p]? = some i) (h : ∀ β bs w, S bs β w → Due ops effs i bs → ∃ u w', (Instr.buildSlice T 0 #[]).run P w = .ok u w' ∧ S (bs.set p true) (upd β i u) w') : Does P effs ops S ⟨i, fun _ => [], fun β => β i, .eff⟩ := by
  refine ⟨fun β u => upd_same i u, p, hp, ?_⟩
  rintro o h1 β ρ _ bs w hS hD
  rw [ho] at h1
  cases h1
  obtain ⟨u, w', g1, g2⟩ := h β bs w hS hD
  exact ⟨u, w', by simp [execOp, hop, g1], g2⟩
theorem d_row1 {T : TypeId} {x : Operand} (hop : o0.op = .buildSlice T 1 #[(0, x)]) (p : Nat) (hp : effs[p]? = some i) {vx : (Nat → Value) → Value} (h : ∀ β bs w, S bs β w → Due ops effs i bs → ∃ u w', (Instr.buildSlice T 1 #[(0, vx β)]).run P w = .ok u w' ∧ S (bs.set p true) (upd β i u) w') : Does P effs ops S ⟨i, fun β => [vx β], fun β => β i, .eff⟩ := by
  refine ⟨fun β u => upd_same i u, p, hp, ?_⟩
  rintro o h1 β ρ h2 bs w hS hD
  rw [ho] at h1
  cases h1
  rw [hop] at h2
  simp [Op.operands] at h2
  obtain ⟨u, w', g1, g2⟩ := h β bs w hS hD
  exact ⟨u, w', by simp [execOp, hop, h2, g1], g2⟩
theorem d_app {T : TypeId} {x y : Operand} (hop : o0.op = .call { callee := .builtin .append, args := #[x, y], argTypes := #[T, T] }) (p : Nat) (hp : effs[p]? = some i) {vx vy : (Nat → Value) → Value} (h : ∀ β bs ty w, S bs β w → Due ops effs i bs → ∃ u w', (Builtin.append_ #[T, T] ty #[vx β, vy β]).run P w = .ok u w' ∧ S (bs.set p true) (upd β i u) w') : Does P effs ops S ⟨i, fun β => [vx β, vy β], fun β => β i, .eff⟩ := by
  refine ⟨fun β u => upd_same i u, p, hp, ?_⟩
  rintro o h1 β ρ h2 bs w hS hD
  rw [ho] at h1
  cases h1
  rw [hop] at h2
  have h3 : ρ x = vx β ∧ ρ y = vy β := by simpa [Op.operands, Call.operands] using h2
  obtain ⟨u, w', g1, g2⟩ := h β bs o0.type w hS hD
  exact ⟨u, w', by simp [execOp, hop, h3.1, h3.2, resolve, invoke, builtin, g1], g2⟩
theorem d_len {T : TypeId} {x : Operand} (hop : o0.op = .call { callee := .builtin .len, args := #[x], argTypes := #[T] }) {vs v : (Nat → Value) → Value} (h : ∀ β ty w, (Builtin.len_ #[T] ty #[vs β]).run P w = .ok (v β) w) : Does P effs ops S ⟨i, fun β => [vs β], v, .pure⟩ := by
  rintro o h1 β ρ h2 w
  rw [ho] at h1
  cases h1
  rw [hop] at h2
  have h3 : ρ x = vs β := by simpa [Op.operands, Call.operands] using h2
  simp [execOp, hop, h3, resolve, invoke, builtin, h]
theorem d_row3 {T : TypeId} {x y z : Operand} (hop : o0.op = .buildSlice T 3 #[(0, x), (1, y), (2, z)]) (p : Nat) (hp : effs[p]? = some i) {vx vy vz : (Nat → Value) → Value} (h : ∀ β bs w, S bs β w → Due ops effs i bs → ∃ u w', (Instr.buildSlice T 3 #[(0, vx β), (1, vy β), (2, vz β)]).run P w = .ok u w' ∧ S (bs.set p true) (upd β i u) w') : Does P effs ops S ⟨i, fun β => [vx β, vy β, vz β], fun β => β i, .eff⟩ := by
  refine ⟨fun β u => upd_same i u, p, hp, ?_⟩
  rintro o h1 β ρ h2 bs w hS hd
  rw [ho] at h1
  cases h1
  rw [hop] at h2
  simp [Op.operands] at h2
  obtain ⟨u, w', g1, g2⟩ := h β bs w hS hd
  exact ⟨u, w', by simp [execOp, hop, h2.1, h2.2.1, h2.2.2, g1], g2⟩
theorem d_ask1 {f : FuncId} {x a : Operand} {ts : Array TypeId} (hop : o0.op = .call { callee := .value x, args := #[a], argTypes := ts }) (he : ∀ zs w, (callFunc f zs).run P w = .ok (.enter f zs) w) {va v : (Nat → Value) → Value}
    (h : ∀ β bs w, S bs β w → Due ops effs i bs → Calls P f #[va β] w fun e w' => e = .returned (v β) ∧ S bs β w') : Does P effs ops S ⟨i, fun β => [.func (.func f) #[] #[], va β], v, .ask⟩ := by
  rintro o h1 β ρ h2 bs w hS hd
  rw [ho] at h1
  cases h1
  rw [hop] at h2
  have h3 : ρ x = .func (.func f) #[] #[] ∧ ρ a = va β := by simpa [Op.operands, Call.operands] using h2
  have hcf := he #[va β] w
  exact ⟨f, _, by simp [execOp, hop, resolve, h3.1, h3.2, invoke, go_sem, hcf], h β bs w hS hd⟩
theorem d_ask2 {f : FuncId} {x a b : Operand} {ts : Array TypeId} (hop : o0.op = .call { callee := .value x, args := #[a, b], argTypes := ts }) (he : ∀ zs w, (callFunc f zs).run P w = .ok (.enter f zs) w) {va vb v : (Nat → Value) → Value}
    (h : ∀ β bs w, S bs β w → Due ops effs i bs → Calls P f #[va β, vb β] w fun e w' => e = .returned (v β) ∧ S bs β w') : Does P effs ops S ⟨i, fun β => [.func (.func f) #[] #[], va β, vb β], v, .ask⟩ := by
  rintro o h1 β ρ h2 bs w hS hd
  rw [ho] at h1
  cases h1
  rw [hop] at h2
  have h3 : ρ x = .func (.func f) #[] #[] ∧ ρ a = va β ∧ ρ b = vb β := by simpa [Op.operands, Call.operands] using h2
  have hcf := he #[va β, vb β] w
  exact ⟨f, _, by simp [execOp, hop, resolve, h3.1, h3.2.1, h3.2.2, invoke, go_sem, hcf], h β bs w hS hd⟩
theorem d_get2 {f : FuncId} {x a b : Operand} {ts : Array TypeId} (hop : o0.op = .call { callee := .value x, args := #[a, b], argTypes := ts }) (he : ∀ zs w, (callFunc f zs).run P w = .ok (.enter f zs) w) (p : Nat) (hp : effs[p]? = some i) {va vb : (Nat → Value) → Value}
    (h : ∀ β bs w, S bs β w → Due ops effs i bs → Calls P f #[va β, vb β] w fun e w' => ∃ u, e = .returned u ∧ S (bs.set p true) (upd β i u) w') : Does P effs ops S ⟨i, fun β => [.func (.func f) #[] #[], va β, vb β], fun β => β i, .get⟩ := by
  refine ⟨fun β u => upd_same i u, p, hp, ?_⟩
  rintro o h1 β ρ h2 bs w hS hd
  rw [ho] at h1
  cases h1
  rw [hop] at h2
  have h3 : ρ x = .func (.func f) #[] #[] ∧ ρ a = va β ∧ ρ b = vb β := by simpa [Op.operands, Call.operands] using h2
  have hcf := he #[va β, vb β] w
  exact ⟨f, _, by simp [execOp, hop, resolve, h3.1, h3.2.1, h3.2.2, invoke, go_sem, hcf], h β bs w hS hd⟩
theorem d_nil {x : Operand} (hop : o0.op = .nilCheck x) {a : Addr} : Does P effs ops S ⟨i, fun _ => [.pointer (some a)], fun _ => .pointer (some a), .pure⟩ := by
  rintro o h1 β ρ h2 w
  rw [ho] at h1
  cases h1
  rw [hop] at h2
  simp [Op.operands] at h2
  simp [execOp, hop, h2, go_sem]
theorem d_make {T : TypeId} {x y : Operand} (hop : o0.op = .makeSlice T x y) (p : Nat) (hp : effs[p]? = some i) {vx vy : (Nat → Value) → Value} (h : ∀ β bs w, S bs β w → Due ops effs i bs → ∃ u w', (Instr.makeSlice T (vx β) (vy β)).run P w = .ok u w' ∧ S (bs.set p true) (upd β i u) w') : Does P effs ops S ⟨i, fun β => [vx β, vy β], fun β => β i, .eff⟩ := by
  refine ⟨fun β u => upd_same i u, p, hp, ?_⟩
  rintro o h1 β ρ h2 bs w hS hd
  rw [ho] at h1
  cases h1
  rw [hop] at h2
  simp [Op.operands] at h2
  obtain ⟨u, w', g1, g2⟩ := h β bs w hS hd
  exact ⟨u, w', by simp [execOp, hop, h2.1, h2.2, g1], g2⟩
theorem d_box {T : TypeId} {x : Operand} (hop : o0.op = .box T x) (p : Nat) (hp : effs[p]? = some i) {vx : (Nat → Value) → Value} (h : ∀ β bs w, S bs β w → Due ops effs i bs → ∃ u w', (Instr.box T (vx β)).run P w = .ok u w' ∧ S (bs.set p true) (upd β i u) w') : Does P effs ops S ⟨i, fun β => [vx β], fun β => β i, .eff⟩ := by
  refine ⟨fun β u => upd_same i u, p, hp, ?_⟩
  rintro o h1 β ρ h2 bs w hS hd
  rw [ho] at h1
  cases h1
  rw [hop] at h2
  simp [Op.operands] at h2
  obtain ⟨u, w', g1, g2⟩ := h β bs w hS hd
  exact ⟨u, w', by simp [execOp, hop, h2, g1], g2⟩
theorem d_alloc {T : TypeId} (hop : o0.op = .alloc T) (p : Nat) (hp : effs[p]? = some i) (h : ∀ β bs w, S bs β w → Due ops effs i bs → ∃ u w', (Instr.alloc T true (.tuple #[])).run P w = .ok u w' ∧ S (bs.set p true) (upd β i u) w') : Does P effs ops S ⟨i, fun _ => [], fun β => β i, .eff⟩ := by
  refine ⟨fun β u => upd_same i u, p, hp, ?_⟩
  rintro o h1 β ρ _ bs w hS hd
  rw [ho] at h1
  cases h1
  obtain ⟨u, w', g1, g2⟩ := h β bs w hS hd
  exact ⟨u, w', by simp [execOp, hop, g1], g2⟩
theorem d_build2 {T : TypeId} {x y : Operand} {k l : Nat} (hop : o0.op = .build T #[(k, x), (l, y)]) {vx vy v : (Nat → Value) → Value} (h : ∀ β w, (Instr.build T #[(k, vx β), (l, vy β)]).run P w = .ok (v β) w) : Does P effs ops S ⟨i, fun β => [vx β, vy β], v, .pure⟩ := by
  rintro o h1 β ρ h2 w
  rw [ho] at h1
  cases h1
  rw [hop] at h2
  simp [Op.operands] at h2
  simp [execOp, hop, h2.1, h2.2, h]
theorem d_binc {op : BinOp} {T R : TypeId} {x : Operand} {c : Value} (hop : o0.op = .binOp op T x (.const c) R) {vx v : (Nat → Value) → Value} (h : ∀ β xo w, (eqGuard op T xo (.const c) (vx β) c).run P w = .ok () w ∧ (binOp op T (vx β) c).run P w = .ok (v β) w) : Does P effs ops S ⟨i, fun β => [vx β, c], v, .pure⟩ := by
  rintro o h1 β ρ h2 w
  rw [ho] at h1
  cases h1
  rw [hop] at h2
  simp [Op.operands] at h2
  obtain ⟨g1, g2⟩ := h β x w
  simp [execOp, hop, h2.1, h2.2, g1, g2]
end
end Go.FreeU
/- As FreeU, with stores into what stands already. No condition on the program. -/
namespace Go.FreeV
open Go Go.RowKit Go.Free

/-- What an operation does to memory: nothing, and reads nothing; it reads; it turns it. -/
inductive Kind where
  | pure
  | read
  | eff
  | ask
  | get
  | put
/-- An operation's operands and answer, by the answers known by then. -/
structure Row where
  i : Nat
  xs : (Nat → Value) → List Value
  v : (Nat → Value) → Value
  k : Kind
def plain (tab : List Row) (β : Nat → Value) : List (Nat × Free.Ent) := tab.map fun x => (x.i, .gen (x.xs β) (x.v β))
def find : List Row → Nat → Option Row
  | [], _ => none
  | x :: r, i => if Nat.beq x.i i then some x else find r i
def upd (β : Nat → Value) (i : Nat) (v : Value) : Nat → Value := fun j => if j = i then v else β j
/-- Does an operation wait for another one, straight or by others? -/
def depB (ops : Array Oper) : Nat → Nat → Nat → Bool
  | 0, _, _ => false
  | n + 1, i, j => match ops[i]? with
    | none => false
    | some o => waits o j || (List.range ops.size).any fun k => waits o k && depB ops n k j
/-- What is known when an operation comes up: all that it waits for has come up, none that waits for it. -/
def Due (ops : Array Oper) (effs : List Nat) (i : Nat) (bs : List Bool) : Prop :=
  ∀ q j : Nat, effs[q]? = some j → (depB ops ops.size i j = true → bs[q]? = some true) ∧ ((depB ops ops.size j i = true ∨ j = i) → bs[q]? = some false)
def Does (P : Program) (effs : List Nat) (ops : Array Oper) (S : List Bool → (Nat → Value) → World → Prop) (x : Row) : Prop :=
  match x.k with
  | .pure => ∀ o, ops[x.i]? = some o → ∀ β (ρ : Operand → Value), o.op.operands.toList.map ρ = x.xs β → ∀ w, (execOp ρ o).run P w = .ok (.value (x.v β)) w
  | .read => ∀ o, ops[x.i]? = some o → ∀ β (ρ : Operand → Value), o.op.operands.toList.map ρ = x.xs β → ∀ bs w, S bs β w → Due ops effs x.i bs → (execOp ρ o).run P w = .ok (.value (x.v β)) w
  | .eff => (∀ β u, x.v (upd β x.i u) = u) ∧ ∃ p, effs[p]? = some x.i ∧ ∀ o, ops[x.i]? = some o → ∀ β (ρ : Operand → Value), o.op.operands.toList.map ρ = x.xs β → ∀ bs w, S bs β w → Due ops effs x.i bs → ∃ u w', (execOp ρ o).run P w = .ok (.value u) w' ∧ S (bs.set p true) (upd β x.i u) w'
  | .ask => ∀ o, ops[x.i]? = some o → ∀ β (ρ : Operand → Value), o.op.operands.toList.map ρ = x.xs β → ∀ bs w, S bs β w → Due ops effs x.i bs → ∃ f args, (execOp ρ o).run P w = .ok (.enter f args) w ∧ Calls P f args w fun e w' => e = .returned (x.v β) ∧ S bs β w'
  | .put => x.v = (fun _ => undef) ∧ ∃ p, effs[p]? = some x.i ∧ ∀ o, ops[x.i]? = some o → ∀ β (ρ : Operand → Value), o.op.operands.toList.map ρ = x.xs β → ∀ bs w, S bs β w → Due ops effs x.i bs → ∃ w', (execOp ρ o).run P w = .ok .skip w' ∧ S (bs.set p true) β w'
  | .get => (∀ β u, x.v (upd β x.i u) = u) ∧ ∃ p, effs[p]? = some x.i ∧ ∀ o, ops[x.i]? = some o → ∀ β (ρ : Operand → Value), o.op.operands.toList.map ρ = x.xs β → ∀ bs w, S bs β w → Due ops effs x.i bs → ∃ f args, (execOp ρ o).run P w = .ok (.enter f args) w ∧ Calls P f args w fun e w' => ∃ u, e = .returned u ∧ S (bs.set p true) (upd β x.i u) w'
def AllDo (P : Program) (effs : List Nat) (ops : Array Oper) (S : List Bool → (Nat → Value) → World → Prop) : List Row → Prop
  | [] => True
  | x :: r => Does P effs ops S x ∧ AllDo P effs ops S r
theorem look_plain (β : Nat → Value) : ∀ (tab : List Row) (i : Nat), Free.look (plain tab β) i = (find tab i).map fun x => Free.Ent.gen (x.xs β) (x.v β)
  | [], _ => rfl
  | x :: r, i => by
    show (if Nat.beq x.i i then some (Free.Ent.gen (x.xs β) (x.v β)) else Free.look (plain r β) i) = _
    unfold find
    split
    · rfl
    · exact look_plain β r i
theorem find_i : ∀ {tab : List Row} {i : Nat} {x : Row}, find tab i = some x → x.i = i
  | [], _, _, h => by cases h
  | y :: r, i, x, h => by
    unfold find at h
    split at h
    · rename_i hj
      cases h
      simpa using hj
    · exact find_i h
theorem AllDo.get {P : Program} {effs : List Nat} {ops : Array Oper} {S : List Bool → (Nat → Value) → World → Prop} : ∀ {tab : List Row}, AllDo P effs ops S tab → ∀ {i x}, find tab i = some x → Does P effs ops S x
  | [], _, i, x, h => by cases h
  | y :: r, ha, i, x, h => by
    unfold find at h
    split at h
    · cases h
      exact ha.1
    · exact ha.2.get h

def rising : List Nat → Bool
  | s :: t :: r => Nat.blt s t && rising (t :: r)
  | _ => true
def isEff : Option Row → Bool
  | some ⟨_, _, _, .eff⟩ => true
  | some ⟨_, _, _, .get⟩ => true
  | some ⟨_, _, _, .put⟩ => true
  | _ => false
/-- The operations that turn memory are the listed ones. -/
def tidyT (tab : List Row) (effs : List Nat) (ops : Array Oper) : Bool :=
  rising effs && effs.all fun s => Nat.blt s ops.size && isEff (find tab s)
/-- Which answers an operation's answer hangs on: it waits for them, or it is one itself. -/
def hangs (vs : List (List Nat × (List Value → Value))) (ops : Array Oper) : Bool :=
  (List.range ops.size).all fun i => ((vs[i]?.map (·.1)).getD []).all fun k => Nat.beq k i || depB ops ops.size i k
def told (ops : Array Oper) (a : Act) (i : Nat) : Value := match (ops[i]?).bind (·.dst) with
  | some d => a.eval (.tmp d)
  | none => undef

def waitsAt (ops : Array Oper) (s i : Nat) : Bool := match ops[s]? with
  | some o => waits o i
  | none => false
/-- What the region must be like: each slot has one writer; who reads a slot waits for its writer, and stands behind it, or the writer waits for him, and stands behind him. -/
def formedT (ops : Array Oper) (size : Nat) : Bool :=
  Takes.forward ops && Region.noSelect ops && (List.range ops.size).all fun i => match ops[i]? with
    | none => false
    | some o => (match o.dst with
        | some d => Nat.blt d size && (writers ops d).all fun j => Nat.beq j i
        | none => true) &&
      (o.looksAt ops).all fun d => ((writers ops d).all fun j => Nat.blt j i && waits o j) || (writers ops d).all fun j => Nat.blt i j && waitsAt ops j i

section
variable (P : Program) (tab : List Row) (effs : List Nat) (ops : Array Oper) (a0 : Act) (S : List Bool → (Nat → Value) → World → Prop) (vs : List (List Nat × (List Value → Value)))
structure Inv (β : Nat → Value) (L : Nat → Bool) (a : Act) (w : World) : Prop where
  d : a.defers = a0.defers
  z : a.tmps.size = a0.tmps.size
  t : ∀ d, (∀ j ∈ writers ops d, L j = true) → a.eval (.tmp d) = (fin P (fun _ => 0) (plain tab β) ops a0 (fun _ => 0)).eval (.tmp d)
  u : ∀ d, (∀ j ∈ writers ops d, L j = false) → a.eval (.tmp d) = a0.eval (.tmp d)
  s : S (effs.map L) β w
  cl : ∀ i o j, ops[i]? = some o → L i = true → waits o j = true → L j = true
structure Set : Prop where
  F : formedT ops a0.tmps.size = true
  ok : AllDo P effs ops S tab
  pl : ∀ β, (plan P (fun _ => 0) (plain tab β) ops a0 (fun _ => 0) ops.size).isSome = true
  cs : ∀ β, (planD P (fun _ => 0) (plain tab β) ops a0 (fun _ => 0) ops.size).2.map (·.1) = (planD P (fun _ => 0) (plain tab β) ops a0 (fun _ => 0) ops.size).2.map (·.2)
  ty : tidyT tab effs ops = true
  vt : ∀ β, (List.range ops.size).map (told ops (fin P (fun _ => 0) (plain tab β) ops a0 (fun _ => 0))) = vs.map fun x => x.2 (x.1.map β)
  hg : hangs vs ops = true
end

section
variable {P : Program} {tab : List Row} {effs : List Nat} {ops : Array Oper} {a0 : Act} {S : List Bool → (Nat → Value) → World → Prop} {vs : List (List Nat × (List Value → Value))} {β : Nat → Value} {L : Nat → Bool} {a : Act} {w : World}

theorem formed_op {size i : Nat} {o : Oper} (h : formedT ops size = true) (hi : ops[i]? = some o) :
    (∀ d, o.dst = some d → d < size ∧ ∀ j ∈ writers ops d, j = i) ∧ ∀ d ∈ o.looksAt ops, (∀ j ∈ writers ops d, j < i ∧ waits o j = true) ∨ ∀ j ∈ writers ops d, i < j ∧ waitsAt ops j i = true := by
  unfold formedT at h
  simp only [Bool.and_eq_true, List.all_eq_true, List.mem_range] at h
  have h1 := h.2 i (Array.getElem?_eq_some_iff.1 hi).1
  simp only [hi, Bool.and_eq_true, List.all_eq_true] at h1
  refine ⟨fun d hd => ?_, fun d hd => ?_⟩
  · have h2 := h1.1
    simp only [hd, Bool.and_eq_true, List.all_eq_true] at h2
    exact ⟨by simpa using h2.1, fun j hj => by simpa using h2.2 j hj⟩
  · have h2 := h1.2 d hd
    rw [Bool.or_eq_true, List.all_eq_true, List.all_eq_true] at h2
    rcases h2 with h2 | h2
    · exact .inl fun j hj => by
        have := h2 j hj
        rw [Bool.and_eq_true] at this
        exact ⟨by simpa using this.1, this.2⟩
    · exact .inr fun j hj => by
        have := h2 j hj
        rw [Bool.and_eq_true] at this
        exact ⟨by simpa using this.1, this.2⟩
theorem formed_sel {size : Nat} (h : formedT ops size = true) : Takes.forward ops = true ∧ Region.noSelect ops = true := by
  unfold formedT at h
  simp only [Bool.and_eq_true] at h
  exact h.1
section
variable {T : List (Nat × Free.Ent)}
theorem plan_pre (h : (plan P (fun _ => 0) T ops a0 (fun _ => 0) ops.size).isSome = true) {d : Tmp} : ∀ i, i ≤ ops.size → (∀ j ∈ writers ops d, i ≤ j) → (planD P (fun _ => 0) T ops a0 (fun _ => 0) i).1.eval (.tmp d) = a0.eval (.tmp d)
  | 0, _, _ => rfl
  | i + 1, hi, hd => by
    obtain ⟨v, h1, _⟩ := plan_step h (Array.getElem?_eq_getElem (show i < ops.size by omega))
    rw [h1, eval_put_ne, plan_pre h i (by omega) (fun j hj => by have := hd j hj; omega)]
    intro hn
    have := hd i (mem_writers.2 ⟨_, Array.getElem?_eq_getElem (by omega), hn⟩)
    omega
theorem fin_dst (hF : formedT ops a0.tmps.size = true) (h : (plan P (fun _ => 0) T ops a0 (fun _ => 0) ops.size).isSome = true) {i : Nat} {o : Oper} (hi : ops[i]? = some o) {v : Value} (hv : (planD P (fun _ => 0) T ops a0 (fun _ => 0) (i + 1)).1 = (planD P (fun _ => 0) T ops a0 (fun _ => 0) i).1.put o.dst v) {d : Tmp} (hd : o.dst = some d) :
    (fin P (fun _ => 0) T ops a0 (fun _ => 0)).eval (.tmp d) = v := by
  have hlt : i < ops.size := (Array.getElem?_eq_some_iff.1 hi).1
  obtain ⟨h1, h2⟩ := (formed_op hF hi).1 d hd
  rw [← plan_eval h (ops.size - (i + 1)) (i + 1) (by omega) (fun j hj => by have := h2 j hj; omega), hv, hd, eval_put_eq]
  rw [plan_size h i (by omega)]
  exact h1
theorem fin_puts (hF : formedT ops a0.tmps.size = true) (h : (plan P (fun _ => 0) T ops a0 (fun _ => 0) ops.size).isSome = true) : ∀ n, n ≤ ops.size → (planD P (fun _ => 0) T ops a0 (fun _ => 0) n).1 = puts a0 (trace ops (fin P (fun _ => 0) T ops a0 (fun _ => 0)) n)
  | 0, _ => rfl
  | n + 1, hn => by
    have hi := Array.getElem?_eq_getElem (show n < ops.size by omega)
    obtain ⟨v, h1, _⟩ := plan_step h hi
    rw [h1, fin_puts hF h n (by omega)]
    unfold trace puts
    rw [List.range_succ, List.filterMap_append, List.foldl_append]
    cases hd : (ops[n]'(by omega)).dst with
    | none => simp [hi, hd, Act.put]
    | some d =>
      have := fin_dst hF h hi h1 hd
      simp [hi, hd, this]
end
theorem upd_same (i : Nat) (v : Value) : upd β i v i = v := if_pos rfl
theorem upd_ne {i j : Nat} (h : j ≠ i) (v : Value) : upd β i v j = β j := if_neg h
theorem dep_listed (hcl : ∀ i o j, ops[i]? = some o → L i = true → waits o j = true → L j = true) : ∀ n i j, depB ops n i j = true → L i = true → L j = true
  | 0, _, _, h, _ => by cases h
  | n + 1, i, j, h, hL => by
    unfold depB at h
    split at h
    · cases h
    · rename_i o ho
      rw [Bool.or_eq_true, List.any_eq_true] at h
      rcases h with h | ⟨k, _, h⟩
      · exact hcl i o j ho hL h
      · rw [Bool.and_eq_true] at h
        exact dep_listed hcl n k j h.2 (hcl i o k ho hL h.1)
theorem dep_due (hcl : ∀ i o j, ops[i]? = some o → L i = true → waits o j = true → L j = true) {i : Nat} {o : Oper} (hi : ops[i]? = some o) (hdep : ∀ j, waits o j = true → L j = true) : ∀ n j, depB ops n i j = true → L j = true
  | 0, _, h => by cases h
  | n + 1, j, h => by
    unfold depB at h
    rw [hi] at h
    simp only at h
    rw [Bool.or_eq_true, List.any_eq_true] at h
    rcases h with h | ⟨k, _, h⟩
    · exact hdep j h
    · rw [Bool.and_eq_true] at h
      exact dep_listed hcl n k j h.2 (hdep k h.1)
theorem rising_ne : ∀ {effs : List Nat}, rising effs = true → ∀ {p q i : Nat}, effs[p]? = some i → effs[q]? = some i → p = q := by
  have lt : ∀ (effs : List Nat), rising effs = true → ∀ n p s t, effs[p]? = some s → effs[p + 1 + n]? = some t → s < t := by
    intro effs
    induction effs with
    | nil => intro _ n p s t h; simp at h
    | cons x r ih =>
      intro hr n p s t h1 h2
      cases r with
      | nil => simp at h2
      | cons y r =>
        unfold rising at hr
        simp only [Bool.and_eq_true] at hr
        have hxy : x < y := by simpa using hr.1
        cases p with
        | succ p =>
          rw [show p + 1 + 1 + n = (p + 1 + n) + 1 by omega, List.getElem?_cons_succ] at h2
          exact ih hr.2 n p s t (by simpa using h1) h2
        | zero =>
          simp at h1
          subst h1
          cases n with
          | zero =>
            simp at h2
            omega
          | succ n =>
            rw [show 0 + 1 + (n + 1) = (n + 1) + 1 by omega, List.getElem?_cons_succ] at h2
            have := ih hr.2 n 0 y t (by simp) (by rw [show 0 + 1 + n = n + 1 by omega]; exact h2)
            omega
  intro effs hr p q i h1 h2
  rcases Nat.lt_trichotomy p q with h | h | h
  · have := lt effs hr (q - (p + 1)) p i i h1 (by rw [show p + 1 + (q - (p + 1)) = q by omega]; exact h2)
    omega
  · exact h
  · have := lt effs hr (p - (q + 1)) q i i h2 (by rw [show q + 1 + (p - (q + 1)) = p by omega]; exact h1)
    omega
theorem told_eff (h : tidyT tab effs ops = true) {s : Nat} (hs : s ∈ effs) : s < ops.size ∧ isEff (find tab s) = true := by
  unfold tidyT at h
  simp only [Bool.and_eq_true, List.all_eq_true] at h
  have := h.2 s hs
  exact ⟨by simpa using this.1, this.2⟩
theorem map_other {i : Nat} (h : ∀ s ∈ effs, s ≠ i) : effs.map (fun j => j == i || L j) = effs.map L :=
  List.map_congr_left fun s hs => by simp [h s hs]
theorem map_set (hr : rising effs = true) {p i : Nat} (hp : effs[p]? = some i) : effs.map (fun j => j == i || L j) = (effs.map L).set p true := by
  refine List.ext_getElem? fun q => ?_
  rw [List.getElem?_set, List.getElem?_map, List.getElem?_map]
  by_cases hq : p = q
  · subst hq
    rw [if_pos rfl, hp]
    have := (List.getElem?_eq_some_iff.1 hp).1
    simp [this]
  · rw [if_neg hq]
    cases he : effs[q]? with
    | none => rfl
    | some j =>
      have hj : j ≠ i := by
        rintro rfl
        exact hq (rising_ne hr hp he)
      simp [hj]
theorem hangs_at (h : hangs vs ops = true) {i : Nat} (hi : i < ops.size) {x : List Nat × (List Value → Value)} (hx : vs[i]? = some x) : ∀ k ∈ x.1, k = i ∨ depB ops ops.size i k = true := by
  intro k hk
  unfold hangs at h
  rw [List.all_eq_true] at h
  have h1 := h i (List.mem_range.2 hi)
  rw [hx] at h1
  simp only [Option.map_some, Option.getD_some, List.all_eq_true] at h1
  have := h1 k hk
  rw [Bool.or_eq_true] at this
  rcases this with h2 | h2
  · exact .inl (by simpa using h2)
  · exact .inr h2
theorem fin_told (G : Set P tab effs ops a0 S vs) (β : Nat → Value) {j : Nat} {o : Oper} {d : Tmp} (hj : ops[j]? = some o) (hd : o.dst = some d) : ∃ x, vs[j]? = some x ∧ (fin P (fun _ => 0) (plain tab β) ops a0 (fun _ => 0)).eval (.tmp d) = x.2 (x.1.map β) := by
  have hlt := (Array.getElem?_eq_some_iff.1 hj).1
  have h := congrArg (fun l => l[j]?) (G.vt β)
  simp only [List.getElem?_map, List.getElem?_range hlt, Option.map_some] at h
  cases hx : vs[j]? with
  | none => rw [hx] at h; cases h
  | some x =>
    rw [hx] at h
    simp only [Option.map_some, Option.some.injEq] at h
    refine ⟨x, rfl, ?_⟩
    rw [← h]
    unfold told
    rw [hj]
    simp [hd]
/-- An answer that isn't there yet may be whatever it is. -/
theorem turn_eval (G : Set P tab effs ops a0 S vs) (h : Inv P tab effs ops a0 S β L a w) {i : Nat} (hi : L i = false) (u : Value) (d : Tmp) (hd : ∀ j ∈ writers ops d, L j = true) : a.eval (.tmp d) = (fin P (fun _ => 0) (plain tab (upd β i u)) ops a0 (fun _ => 0)).eval (.tmp d) := by
  rw [h.t d hd]
  by_cases hw : ∃ j, j ∈ writers ops d
  · obtain ⟨j, hj⟩ := hw
    obtain ⟨o, ho, hod⟩ := mem_writers.1 hj
    obtain ⟨x, hx, e1⟩ := fin_told G β ho hod
    obtain ⟨y, hy, e2⟩ := fin_told G (upd β i u) ho hod
    rw [hx] at hy
    cases hy
    rw [e1, e2]
    refine congrArg x.2 (List.map_congr_left fun k hk => ?_)
    have hLj := hd j hj
    have hki : k ≠ i := by
      rintro rfl
      rcases hangs_at G.hg (Array.getElem?_eq_some_iff.1 ho).1 hx k hk with e | e
      · rw [e, hLj] at hi; cases hi
      · rw [dep_listed h.cl _ _ _ e hLj] at hi; cases hi
    exact (upd_ne hki u).symm
  · have hno : ∀ j ∈ writers ops d, j < 0 := fun j hj => absurd ⟨j, hj⟩ hw
    rw [← plan_eval (G.pl β) ops.size 0 (by omega) hno, ← plan_eval (G.pl _) ops.size 0 (by omega) hno]
    rfl

theorem same_eval (G : Set P tab effs ops a0 S vs) (h : Inv P tab effs ops a0 S β L a w) {i : Nat} {o : Oper} (hi : ops[i]? = some o) (hL : L i = false) (hdep : ∀ j, waits o j = true → L j = true) {d : Tmp} (hd : d ∈ o.looksAt ops) :
    a.eval (.tmp d) = (planD P (fun _ => 0) (plain tab β) ops a0 (fun _ => 0) i).1.eval (.tmp d) := by
  have hlt : i < ops.size := (Array.getElem?_eq_some_iff.1 hi).1
  rcases (formed_op G.F hi).2 d hd with hw | hw
  · rw [h.t d (fun j hj => hdep j (hw j hj).2), plan_eval (G.pl β) (ops.size - i) i (by omega) (fun j hj => (hw j hj).1)]
  · rw [plan_pre (G.pl β) i (by omega) (fun j hj => by have := (hw j hj).1; omega)]
    refine h.u d fun j hj => ?_
    cases hq : L j with
    | false => rfl
    | true =>
      have h2 := (hw j hj).2
      unfold waitsAt at h2
      split at h2
      · rename_i o' ho'
        rw [h.cl j o' i ho' hq h2] at hL
        cases hL
      · cases h2
theorem same_op (G : Set P tab effs ops a0 S vs) (h : Inv P tab effs ops a0 S β L a w) {i : Nat} {o : Oper} (hi : ops[i]? = some o) (hL : L i = false) (hdep : ∀ j, waits o j = true → L j = true) :
    execOp a.eval o = execOp (planD P (fun _ => 0) (plain tab β) ops a0 (fun _ => 0) i).1.eval o :=
  execOp_congr o (fun cs b => Region.noSelect_spec (formed_sel G.F).2 i o cs b hi) fun x hx => by
    cases x with
    | tmp d => exact same_eval G h hi hL hdep (List.mem_append_left _ (List.mem_filterMap.2 ⟨.tmp d, by simpa using hx, rfl⟩))
    | _ => rfl
theorem same_wanted (G : Set P tab effs ops a0 S vs) (h : Inv P tab effs ops a0 S β L a w) {i : Nat} {o : Oper} (hi : ops[i]? = some o) (hL : L i = false) (hdep : ∀ j, waits o j = true → L j = true) :
    Region.wanted o (yielded ops a.tmps) = Region.wanted o (yielded ops (planD P (fun _ => 0) (plain tab β) ops a0 (fun _ => 0) i).1.tmps) := by
  have hlt : i < ops.size := (Array.getElem?_eq_some_iff.1 hi).1
  unfold Region.wanted
  cases hg : o.guard with
  | none => rfl
  | some gw =>
    obtain ⟨g, want⟩ := gw
    have hy : yielded ops a.tmps g = yielded ops (planD P (fun _ => 0) (plain tab β) ops a0 (fun _ => 0) i).1.tmps g := by
      unfold yielded
      cases ht : (ops[g]?).bind (·.dst) with
      | none => rfl
      | some t =>
        have h1 := same_eval G h hi hL hdep (d := t) (List.mem_append_right _ (by simp [hg, ht]))
        have hz : a.tmps.size = (planD P (fun _ => 0) (plain tab β) ops a0 (fun _ => 0) i).1.tmps.size := by rw [h.z, plan_size (G.pl β) i (by omega)]
        simp only [Option.bind_some]
        unfold Act.eval at h1
        simp only [Array.getD_eq_getD_getElem?] at h1
        by_cases hlt2 : t < a.tmps.size
        · rw [Array.getElem?_eq_getElem hlt2, Array.getElem?_eq_getElem (Nat.lt_of_lt_of_eq hlt2 hz)] at h1 ⊢
          simp only [Option.getD_some] at h1
          rw [h1]
        · rw [Array.getElem?_eq_none (Nat.not_lt.1 hlt2), Array.getElem?_eq_none (Nat.le_trans (Nat.le_of_eq hz.symm) (Nat.not_lt.1 hlt2))]
    simp only [hy]

theorem Inv.on (G : Set P tab effs ops a0 S vs) (h : Inv P tab effs ops a0 S β L a w) {i : Nat} {o : Oper} (hi : ops[i]? = some o) (hdep : ∀ j, waits o j = true → L j = true) {γ : Nat → Value} (hγ : ∀ d, (∀ j ∈ writers ops d, L j = true) → a.eval (.tmp d) = (fin P (fun _ => 0) (plain tab γ) ops a0 (fun _ => 0)).eval (.tmp d))
    {v : Value} (hv : (planD P (fun _ => 0) (plain tab γ) ops a0 (fun _ => 0) (i + 1)).1 = (planD P (fun _ => 0) (plain tab γ) ops a0 (fun _ => 0) i).1.put o.dst v)
    {w' : World} (hs : S (effs.map (fun j => j == i || L j)) γ w') : Inv P tab effs ops a0 S γ (fun j => j == i || L j) (a.put o.dst v) w' where
  d := by rw [← h.d]; cases o.dst <;> rfl
  z := by rw [size_put]; exact h.z
  t := fun d hd => by
    by_cases e : o.dst = some d
    · rw [fin_dst G.F (G.pl γ) hi hv e, e, eval_put_eq]
      rw [h.z]
      exact ((formed_op G.F hi).1 d e).1
    · rw [eval_put_ne e]
      refine hγ d fun j hj => ?_
      have := hd j hj
      rwa [lor_ne] at this
      rintro rfl
      obtain ⟨o', ho, hod⟩ := mem_writers.1 hj
      rw [hi] at ho
      cases ho
      exact e hod
  u := fun d hd => by
    have hne : o.dst ≠ some d := fun e => by
      have := hd i (mem_writers.2 ⟨o, hi, e⟩)
      simp at this
    rw [eval_put_ne hne]
    refine h.u d fun j hj => ?_
    have := hd j hj
    rw [Bool.or_eq_false_iff] at this
    exact this.2
  s := hs
  cl := fun j o' k hj hl hk => by
    by_cases e : j = i
    · subst e
      rw [hi] at hj
      cases hj
      exact lor_of (hdep k hk)
    · exact lor_of (h.cl j o' k hj (by simpa [e] using hl) hk)

theorem Inv.next (G : Set P tab effs ops a0 S vs) {Q : Exit → Act → World → Prop} {i : Nat} {o : Oper} (hi : ops[i]? = some o) (hL : L i = false) (hdep : ∀ j, waits o j = true → L j = true) (h : ∃ β, Inv P tab effs ops a0 S β L a w) :
    if Region.wanted o (yielded ops a.tmps) = true then o.wp P a w (fun a' w' => ∃ β, Inv P tab effs ops a0 S β (fun j => j == i || L j) a' w') Q else ∃ β, Inv P tab effs ops a0 S β (fun j => j == i || L j) (a.put o.dst undef) w := by
  have hlt : i < ops.size := (Array.getElem?_eq_some_iff.1 hi).1
  obtain ⟨β, h⟩ := h
  obtain ⟨v, hv, hmore, hcase⟩ := plan_step (G.pl β) hi
  have calm : isEff (find tab i) = false → ∀ w', S (effs.map L) β w' → S (effs.map (fun j => j == i || L j)) β w' := fun hn w' hs => by
    rw [map_other]
    · exact hs
    · rintro s hse rfl
      rw [(told_eff G.ty hse).2] at hn
      cases hn
  have due : Due ops effs i (effs.map L) := fun q j hq => by
    rw [List.getElem?_map, hq]
    refine ⟨fun hd => by rw [Option.map_some, dep_due h.cl hi hdep _ _ hd], fun hd => ?_⟩
    rw [Option.map_some]
    congr 1
    rcases hd with hd | rfl
    · cases hq2 : L j with
      | false => rfl
      | true =>
        rw [dep_listed h.cl _ _ _ hd hq2] at hL
        cases hL
    · exact hL
  rw [same_wanted G h hi hL hdep]
  rcases hcase with ⟨hw, cs, hr, hcs⟩ | ⟨hw, hl, rfl⟩
  · rw [if_pos hw]
    have hc : ∀ c ∈ cs, c.1 = c.2 := fun c hc => Takes.all_eq (G.cs β) c (plan_more (G.pl β) (ops.size - (i + 1)) (i + 1) (by omega) c (hcs c hc))
    unfold Oper.wp
    rw [same_op G h hi hL hdep]
    generalize hα : (planD P (fun _ => 0) (plain tab β) ops a0 (fun _ => 0) i).1 = α at hr
    have hv2 : ∀ v', v = v' → (planD P (fun _ => 0) (plain tab β) ops a0 (fun _ => 0) (i + 1)).1 = (planD P (fun _ => 0) (plain tab β) ops a0 (fun _ => 0) i).1.put o.dst v' := fun v' e => by rw [← e]; exact hv
    unfold res at hr
    rw [look_plain] at hr
    cases hf : find tab i with
    | none =>
      rw [hf] at hr
      simp only [Option.map_none] at hr
      obtain ⟨v', hv', he⟩ := Option.map_eq_some_iff.1 hr
      cases he
      rw [Takes.val_ok hv' w]
      exact ⟨β, h.on G hi hdep h.t (hv2 _ rfl) (calm (by rw [hf]; rfl) _ h.s)⟩
    | some x =>
      have hxi := find_i hf
      have hdo := G.ok.get hf
      obtain ⟨i', xs, vf, k⟩ := x
      simp only at hxi
      subst hxi
      rw [hf] at hr
      simp only [Option.map_some] at hr
      cases hr
      have hx := agg_inj (hc (.agg (o.op.operands.toList.map α.eval).toArray, .agg (xs β).toArray) (List.mem_singleton.2 rfl))
      have hx2 : o.op.operands.toList.map α.eval = xs β := List.toArray_inj hx
      cases k with
      | pure =>
        rw [hdo o hi β α.eval hx2 w]
        exact ⟨β, h.on G hi hdep h.t (hv2 _ rfl) (calm (by rw [hf]; rfl) _ h.s)⟩
      | read =>
        rw [hdo o hi β α.eval hx2 _ w h.s due]
        exact ⟨β, h.on G hi hdep h.t (hv2 _ rfl) (calm (by rw [hf]; rfl) _ h.s)⟩
      | eff =>
        obtain ⟨hu, p, hp, hd⟩ := hdo
        obtain ⟨u, w', h1, h2⟩ := hd o hi β α.eval hx2 _ w h.s due
        rw [h1]
        obtain ⟨v2, hv3, _, hcase2⟩ := plan_step (G.pl (upd β i' u)) hi
        have hv4 : v2 = u := by
          rcases hcase2 with ⟨_, cs2, hr2, _⟩ | ⟨_, hl, _⟩
          · unfold res at hr2
            rw [look_plain, hf] at hr2
            simp only [Option.map_some] at hr2
            cases hr2
            exact hu β u
          · rw [look_plain, hf] at hl
            cases hl
        rw [hv4] at hv3
        refine ⟨upd β i' u, h.on G hi hdep (fun d hd => turn_eval G h hL u d hd) hv3 ?_⟩
        have hr0 := G.ty
        unfold tidyT at hr0
        rw [Bool.and_eq_true] at hr0
        rw [map_set hr0.1 hp]
        exact h2
      | put =>
        obtain ⟨rfl, p, hp, hd⟩ := hdo
        obtain ⟨w', h1, h2⟩ := hd o hi β α.eval hx2 _ w h.s due
        rw [h1]
        have hr0 := G.ty
        unfold tidyT at hr0
        rw [Bool.and_eq_true] at hr0
        exact ⟨β, h.on G hi hdep h.t (hv2 _ rfl) (by rw [map_set hr0.1 hp]; exact h2)⟩
      | ask =>
        obtain ⟨f, args, h1, h2⟩ := hdo o hi β α.eval hx2 _ w h.s due
        rw [h1]
        simp only [Oper.upon]
        refine h2.mono fun e w' he => ?_
        obtain ⟨rfl, hs⟩ := he
        exact ⟨β, h.on G hi hdep h.t (hv2 _ rfl) (calm (by rw [hf]; rfl) _ hs)⟩
      | get =>
        obtain ⟨hu, p, hp, hd⟩ := hdo
        obtain ⟨f, args, h1, h2⟩ := hd o hi β α.eval hx2 _ w h.s due
        rw [h1]
        simp only [Oper.upon]
        refine h2.mono fun e w' he => ?_
        obtain ⟨u, rfl, h2⟩ := he
        obtain ⟨v2, hv3, _, hcase2⟩ := plan_step (G.pl (upd β i' u)) hi
        have hv4 : v2 = u := by
          rcases hcase2 with ⟨_, cs2, hr2, _⟩ | ⟨_, hl, _⟩
          · unfold res at hr2
            rw [look_plain, hf] at hr2
            simp only [Option.map_some] at hr2
            cases hr2
            exact hu β u
          · rw [look_plain, hf] at hl
            cases hl
        rw [hv4] at hv3
        refine ⟨upd β i' u, h.on G hi hdep (fun d hd => turn_eval G h hL u d hd) hv3 ?_⟩
        have hr0 := G.ty
        unfold tidyT at hr0
        rw [Bool.and_eq_true] at hr0
        rw [map_set hr0.1 hp]
        exact h2
  · rw [hw, if_neg (by simp)]
    rw [look_plain] at hl
    have hn : find tab i = none := by
      cases hf : find tab i with
      | none => rfl
      | some x => rw [hf] at hl; cases hl
    exact ⟨β, h.on G hi hdep h.t hv (calm (by rw [hn]; rfl) _ h.s)⟩

/-- The region, once for all orders. -/
theorem region_puts {id : Nat} {Q : Exit → Act → World → Prop} (hm : P.follows .mixedOrders = true) (G : Set P tab effs ops a0 S vs) (h0 : S (effs.map fun _ => false) (fun _ => undef) w.drew) (ps : (Nat → Value) → List (Tmp × Value)) (hps : ∀ β, trace ops (fin P (fun _ => 0) (plain tab β) ops a0 (fun _ => 0)) ops.size = ps β)
    (hend : ∀ β w', S (effs.map fun _ => true) β w' → Q .normal (puts a0 (ps β)) w') : (Code.region id ops true).wp P Q a0 w := by
  refine Takes.wp_region_inv hm (fun L a w' => ∃ β, Inv P tab effs ops a0 S β L a w') ?_ ?_ ?_ (formed_sel G.F).1
  · refine ⟨fun _ => undef, rfl, rfl, fun d hd => ?_, fun _ _ => rfl, h0, fun i o j _ h => (by cases h)⟩
    have hno : ∀ j ∈ writers ops d, j < 0 := fun j hj => by cases hd j hj
    rw [← plan_eval (G.pl _) ops.size 0 (by omega) hno]
    rfl
  · rintro L a w' i o hi hL hdep hI
    exact Inv.next G (Q := Q) hi hL (fun j hj => by obtain ⟨e, he, hb, rfl⟩ := waits_spec hj; exact hdep e he hb) hI
  · rintro L a w' hall ⟨β, h⟩
    have hs := h.s
    rw [List.map_congr_left (g := fun _ => true) fun s hs => hall s (told_eff G.ty hs).1] at hs
    have hq := hend β w' hs
    rw [← hps, ← fin_puts G.F (G.pl β) ops.size (Nat.le_refl _)] at hq
    have ez : a.tmps.size = (fin P (fun _ => 0) (plain tab β) ops a0 (fun _ => 0)).tmps.size := by rw [h.z]; exact (plan_size (G.pl β) ops.size (Nat.le_refl _)).symm
    have et : a.tmps = (fin P (fun _ => 0) (plain tab β) ops a0 (fun _ => 0)).tmps := by
      refine Array.ext ez fun d h1 h2 => ?_
      have h3 := h.t d (fun j hj => by obtain ⟨o, ho, _⟩ := mem_writers.1 hj; exact hall j (Array.getElem?_eq_some_iff.1 ho).1)
      unfold Act.eval at h3
      simp only [Array.getD_eq_getD_getElem?] at h3
      rwa [Array.getElem?_eq_getElem h1, Array.getElem?_eq_getElem h2] at h3
    have ed : a.defers = (fin P (fun _ => 0) (plain tab β) ops a0 (fun _ => 0)).defers := by rw [h.d]; exact (plan_defers (G.pl β) ops.size (Nat.le_refl _)).symm
    have : a = fin P (fun _ => 0) (plain tab β) ops a0 (fun _ => 0) := by
      cases a
      generalize fin P (fun _ => 0) (plain tab β) ops a0 (fun _ => 0) = b at et ed
      cases b
      simp only at et ed
      rw [et, ed]
    rw [this]
    exact hq
end
end Go.FreeV
/- What single operations do, for FreeV's tables: stores among them. No condition. -/
namespace Go.FreeV
open Go Go.RowKit Go.Free Go.Op
section
variable {P : Program} {effs : List Nat} {ops : Array Oper} {S : List Bool → (Nat → Value) → World → Prop} {i : Nat} (o0 : Oper) (ho : ops[i]? = some o0)
include ho
theorem d_at {T : TypeId} {x y : Operand} (hop : o0.op = .indexAddr T x y) {vs vi v : (Nat → Value) → Value} (h : ∀ β w, (Instr.indexAt T (vs β) (vi β)).run P w = .ok (v β) w) : Does P effs ops S ⟨i, fun β => [vs β, vi β], v, .pure⟩ := by
  rintro o h1 β ρ h2 w
  rw [ho] at h1
  cases h1
  rw [hop] at h2
  simp [Op.operands] at h2
  simp [execOp, hop, h2.1, h2.2, h]
theorem d_bin {op : BinOp} {T R : TypeId} {x y : Operand} (hop : o0.op = .binOp op T x y R) {vx vy v : (Nat → Value) → Value} (h : ∀ β xo yo w, (eqGuard op T xo yo (vx β) (vy β)).run P w = .ok () w ∧ (binOp op T (vx β) (vy β)).run P w = .ok (v β) w) : Does P effs ops S ⟨i, fun β => [vx β, vy β], v, .pure⟩ := by
  rintro o h1 β ρ h2 w
  rw [ho] at h1
  cases h1
  rw [hop] at h2
  simp [Op.operands] at h2
  obtain ⟨g1, g2⟩ := h β x y w
  simp [execOp, hop, h2.1, h2.2, g1, g2]
theorem d_hi {T : TypeId} {x y : Operand} (hop : o0.op = .slice T x none (some y) none) {vx vy v : (Nat → Value) → Value} (h : ∀ β w, (Instr.sliceAt T (vx β) none (some (vy β)) none).run P w = .ok (v β) w) : Does P effs ops S ⟨i, fun β => [vx β, vy β], v, .pure⟩ := by
  rintro o h1 β ρ h2 w
  rw [ho] at h1
  cases h1
  rw [hop] at h2
  simp [Op.operands] at h2
  simp [execOp, hop, h2.1, h2.2, h]
theorem d_lo {T : TypeId} {x y : Operand} (hop : o0.op = .slice T x (some y) none none) {vx vy v : (Nat → Value) → Value} (h : ∀ β w, (Instr.sliceAt T (vx β) (some (vy β)) none none).run P w = .ok (v β) w) : Does P effs ops S ⟨i, fun β => [vx β, vy β], v, .pure⟩ := by
  rintro o h1 β ρ h2 w
  rw [ho] at h1
  cases h1
  rw [hop] at h2
  simp [Op.operands] at h2
  simp [execOp, hop, h2.1, h2.2, h]
theorem d_load {T : TypeId} {x : Operand} (hop : o0.op = .load T x) {p v : (Nat → Value) → Value} (h : ∀ β bs w, S bs β w → Due ops effs i bs → (Instr.loadAt T (p β)).run P w = .ok (v β) w) : Does P effs ops S ⟨i, fun β => [p β], v, .read⟩ := by
  rintro o h1 β ρ h2 bs w hS hD
  rw [ho] at h1
  cases h1
  rw [hop] at h2
  simp [Op.operands] at h2
  simp [execOp, hop, h2, h β bs w hS hD]
theorem d_row0 {T : TypeId} (hop : o0.op = .buildSlice T 0 #[]) (p : Nat) (hp : effs[p]? = some i) (h : ∀ β bs w, S bs β w → Due ops effs i bs → ∃ u w', (Instr.buildSlice T 0 #[]).run P w = .ok u w' ∧ S (bs.set p true) (upd β i u) w') : Does P effs ops S ⟨i, fun _ => [], fun β => β i, .eff⟩ := by
  refine ⟨fun β u => upd_same i u, p, hp, ?_⟩
  rintro o h1 β ρ _ bs w hS hD
  rw [ho] at h1
  cases h1
  obtain ⟨u, w', g1, g2⟩ := h β bs w hS hD
  exact ⟨u, w', by simp [execOp, hop, g1], g2⟩
theorem d_row1 {T : TypeId} {x : Operand} (hop : o0.op = .buildSlice T 1 #[(0, x)]) (p : Nat) (hp : effs[p]? = some i) {vx : (Nat → Value) → Value} (h : ∀ β bs w, S bs β w → Due ops effs i bs → ∃ u w', (Instr.buildSlice T 1 #[(0, vx β)]).run P w = .ok u w' ∧ S (bs.set p true) (upd β i u) w') : Does P effs ops S ⟨i, fun β => [vx β], fun β => β i, .eff⟩ := by
  refine ⟨fun β u => upd_same i u, p, hp, ?_⟩
  rintro o h1 β ρ h2 bs w hS hD
  rw [ho] at h1
  cases h1
  rw [hop] at h2
  simp [Op.operands] at h2
  obtain ⟨u, w', g1, g2⟩ := h β bs w hS hD
  exact ⟨u, w', by simp [execOp, hop, h2, g1], g2⟩
theorem d_app {T : TypeId} {x y : Operand} (hop : o0.op = .call { callee := .builtin .append, args := #[x, y], argTypes := #[T, T] }) (p : Nat) (hp : effs[p]? = some i) {vx vy : (Nat → Value) → Value} (h : ∀ β bs ty w, S bs β w → Due ops effs i bs → ∃ u w', (Builtin.append_ #[T, T] ty #[vx β, vy β]).run P w = .ok u w' ∧ S (bs.set p true) (upd β i u) w') : Does P effs ops S ⟨i, fun β => [vx β, vy β], fun β => β i, .eff⟩ := by
  refine ⟨fun β u => upd_same i u, p, hp, ?_⟩
  rintro o h1 β ρ h2 bs w hS hD
  rw [ho] at h1
  cases h1
  rw [hop] at h2
  have h3 : ρ x = vx β ∧ ρ y = vy β := by simpa [Op.operands, Call.operands] using h2
  obtain ⟨u, w', g1, g2⟩ := h β bs o0.type w hS hD
  exact ⟨u, w', by simp [execOp, hop, h3.1, h3.2, resolve, invoke, builtin, g1], g2⟩
theorem d_len {T : TypeId} {x : Operand} (hop : o0.op = .call { callee := .builtin .len, args := #[x], argTypes := #[T] }) {vs v : (Nat → Value) → Value} (h : ∀ β ty w, (Builtin.len_ #[T] ty #[vs β]).run P w = .ok (v β) w) : Does P effs ops S ⟨i, fun β => [vs β], v, .pure⟩ := by
  rintro o h1 β ρ h2 w
  rw [ho] at h1
  cases h1
  rw [hop] at h2
  have h3 : ρ x = vs β := by simpa [Op.operands, Call.operands] using h2
  simp [execOp, hop, h3, resolve, invoke, builtin, h]
theorem d_row3 {T : TypeId} {x y z : Operand} (hop : o0.op = .buildSlice T 3 #[(0, x), (1, y), (2, z)]) (p : Nat) (hp : effs[p]? = some i) {vx vy vz : (Nat → Value) → Value} (h : ∀ β bs w, S bs β w → Due ops effs i bs → ∃ u w', (Instr.buildSlice T 3 #[(0, vx β), (1, vy β), (2, vz β)]).run P w = .ok u w' ∧ S (bs.set p true) (upd β i u) w') : Does P effs ops S ⟨i, fun β => [vx β, vy β, vz β], fun β => β i, .eff⟩ := by
  refine ⟨fun β u => upd_same i u, p, hp, ?_⟩
  rintro o h1 β ρ h2 bs w hS hd
  rw [ho] at h1
  cases h1
  rw [hop] at h2
  simp [Op.operands] at h2
  obtain ⟨u, w', g1, g2⟩ := h β bs w hS hd
  exact ⟨u, w', by simp [execOp, hop, h2.1, h2.2.1, h2.2.2, g1], g2⟩
theorem d_ask1 {f : FuncId} {x a : Operand} {ts : Array TypeId} (hop : o0.op = .call { callee := .value x, args := #[a], argTypes := ts }) (he : ∀ zs w, (callFunc f zs).run P w = .ok (.enter f zs) w) {va v : (Nat → Value) → Value}
    (h : ∀ β bs w, S bs β w → Due ops effs i bs → Calls P f #[va β] w fun e w' => e = .returned (v β) ∧ S bs β w') : Does P effs ops S ⟨i, fun β => [.func (.func f) #[] #[], va β], v, .ask⟩ := by
  rintro o h1 β ρ h2 bs w hS hd
  rw [ho] at h1
  cases h1
  rw [hop] at h2
  have h3 : ρ x = .func (.func f) #[] #[] ∧ ρ a = va β := by simpa [Op.operands, Call.operands] using h2
  have hcf := he #[va β] w
  exact ⟨f, _, by simp [execOp, hop, resolve, h3.1, h3.2, invoke, go_sem, hcf], h β bs w hS hd⟩
theorem d_ask2 {f : FuncId} {x a b : Operand} {ts : Array TypeId} (hop : o0.op = .call { callee := .value x, args := #[a, b], argTypes := ts }) (he : ∀ zs w, (callFunc f zs).run P w = .ok (.enter f zs) w) {va vb v : (Nat → Value) → Value}
    (h : ∀ β bs w, S bs β w → Due ops effs i bs → Calls P f #[va β, vb β] w fun e w' => e = .returned (v β) ∧ S bs β w') : Does P effs ops S ⟨i, fun β => [.func (.func f) #[] #[], va β, vb β], v, .ask⟩ := by
  rintro o h1 β ρ h2 bs w hS hd
  rw [ho] at h1
  cases h1
  rw [hop] at h2
  have h3 : ρ x = .func (.func f) #[] #[] ∧ ρ a = va β ∧ ρ b = vb β := by simpa [Op.operands, Call.operands] using h2
  have hcf := he #[va β, vb β] w
  exact ⟨f, _, by simp [execOp, hop, resolve, h3.1, h3.2.1, h3.2.2, invoke, go_sem, hcf], h β bs w hS hd⟩
theorem d_get2 {f : FuncId} {x a b : Operand} {ts : Array TypeId} (hop : o0.op = .call { callee := .value x, args := #[a, b], argTypes := ts }) (he : ∀ zs w, (callFunc f zs).run P w = .ok (.enter f zs) w) (p : Nat) (hp : effs[p]? = some i) {va vb : (Nat → Value) → Value}
    (h : ∀ β bs w, S bs β w → Due ops effs i bs → Calls P f #[va β, vb β] w fun e w' => ∃ u, e = .returned u ∧ S (bs.set p true) (upd β i u) w') : Does P effs ops S ⟨i, fun β => [.func (.func f) #[] #[], va β, vb β], fun β => β i, .get⟩ := by
  refine ⟨fun β u => upd_same i u, p, hp, ?_⟩
  rintro o h1 β ρ h2 bs w hS hd
  rw [ho] at h1
  cases h1
  rw [hop] at h2
  have h3 : ρ x = .func (.func f) #[] #[] ∧ ρ a = va β ∧ ρ b = vb β := by simpa [Op.operands, Call.operands] using h2
  have hcf := he #[va β, vb β] w
  exact ⟨f, _, by simp [execOp, hop, resolve, h3.1, h3.2.1, h3.2.2, invoke, go_sem, hcf], h β bs w hS hd⟩
theorem d_nil {x : Operand} (hop : o0.op = .nilCheck x) {a : Addr} : Does P effs ops S ⟨i, fun _ => [.pointer (some a)], fun _ => .pointer (some a), .pure⟩ := by
  rintro o h1 β ρ h2 w
  rw [ho] at h1
  cases h1
  rw [hop] at h2
  simp [Op.operands] at h2
  simp [execOp, hop, h2, go_sem]
theorem d_make {T : TypeId} {x y : Operand} (hop : o0.op = .makeSlice T x y) (p : Nat) (hp : effs[p]? = some i) {vx vy : (Nat → Value) → Value} (h : ∀ β bs w, S bs β w → Due ops effs i bs → ∃ u w', (Instr.makeSlice T (vx β) (vy β)).run P w = .ok u w' ∧ S (bs.set p true) (upd β i u) w') : Does P effs ops S ⟨i, fun β => [vx β, vy β], fun β => β i, .eff⟩ := by
  refine ⟨fun β u => upd_same i u, p, hp, ?_⟩
  rintro o h1 β ρ h2 bs w hS hd
  rw [ho] at h1
  cases h1
  rw [hop] at h2
  simp [Op.operands] at h2
  obtain ⟨u, w', g1, g2⟩ := h β bs w hS hd
  exact ⟨u, w', by simp [execOp, hop, h2.1, h2.2, g1], g2⟩
theorem d_box {T : TypeId} {x : Operand} (hop : o0.op = .box T x) (p : Nat) (hp : effs[p]? = some i) {vx : (Nat → Value) → Value} (h : ∀ β bs w, S bs β w → Due ops effs i bs → ∃ u w', (Instr.box T (vx β)).run P w = .ok u w' ∧ S (bs.set p true) (upd β i u) w') : Does P effs ops S ⟨i, fun β => [vx β], fun β => β i, .eff⟩ := by
  refine ⟨fun β u => upd_same i u, p, hp, ?_⟩
  rintro o h1 β ρ h2 bs w hS hd
  rw [ho] at h1
  cases h1
  rw [hop] at h2
  simp [Op.operands] at h2
  obtain ⟨u, w', g1, g2⟩ := h β bs w hS hd
  exact ⟨u, w', by simp [execOp, hop, h2, g1], g2⟩
theorem d_alloc {T : TypeId} (hop : o0.op = .alloc T) (p : Nat) (hp : effs[p]? = some i) (h : ∀ β bs w, S bs β w → Due ops effs i bs → ∃ u w', (Instr.alloc T true (.tuple #[])).run P w = .ok u w' ∧ S (bs.set p true) (upd β i u) w') : Does P effs ops S ⟨i, fun _ => [], fun β => β i, .eff⟩ := by
  refine ⟨fun β u => upd_same i u, p, hp, ?_⟩
  rintro o h1 β ρ _ bs w hS hd
  rw [ho] at h1
  cases h1
  obtain ⟨u, w', g1, g2⟩ := h β bs w hS hd
  exact ⟨u, w', by simp [execOp, hop, g1], g2⟩
theorem d_build2 {T : TypeId} {x y : Operand} {k l : Nat} (hop : o0.op = .build T #[(k, x), (l, y)]) {vx vy v : (Nat → Value) → Value} (h : ∀ β w, (Instr.build T #[(k, vx β), (l, vy β)]).run P w = .ok (v β) w) : Does P effs ops S ⟨i, fun β => [vx β, vy β], v, .pure⟩ := by
  rintro o h1 β ρ h2 w
  rw [ho] at h1
  cases h1
  rw [hop] at h2
  simp [Op.operands] at h2
  simp [execOp, hop, h2.1, h2.2, h]
theorem d_binc {op : BinOp} {T R : TypeId} {x : Operand} {c : Value} (hop : o0.op = .binOp op T x (.const c) R) {vx v : (Nat → Value) → Value} (h : ∀ β xo w, (eqGuard op T xo (.const c) (vx β) c).run P w = .ok () w ∧ (binOp op T (vx β) c).run P w = .ok (v β) w) : Does P effs ops S ⟨i, fun β => [vx β, c], v, .pure⟩ := by
  rintro o h1 β ρ h2 w
  rw [ho] at h1
  cases h1
  rw [hop] at h2
  simp [Op.operands] at h2
  obtain ⟨g1, g2⟩ := h β x w
  simp [execOp, hop, h2.1, h2.2, g1, g2]
theorem d_store {T : TypeId} {x y : Operand} (hop : o0.op = .store T x y) (p : Nat) (hp : effs[p]? = some i) {vx vy : (Nat → Value) → Value}
    (h : ∀ β bs w, S bs β w → Due ops effs i bs → ∃ w', (Instr.storeAt T (vx β) (vy β)).run P w = .ok () w' ∧ S (bs.set p true) β w') : Does P effs ops S ⟨i, fun β => [vx β, vy β], fun _ => undef, .put⟩ := by
  refine ⟨rfl, p, hp, ?_⟩
  rintro o h1 β ρ h2 bs w hS hd
  rw [ho] at h1
  cases h1
  rw [hop] at h2
  simp [Op.operands] at h2
  obtain ⟨w', g1, g2⟩ := h β bs w hS hd
  exact ⟨w', by simp [execOp, hop, h2.1, h2.2, g1], g2⟩
theorem d_get4 {f : FuncId} {x a b c d : Operand} {ts : Array TypeId} (hop : o0.op = .call { callee := .value x, args := #[a, b, c, d], argTypes := ts }) (he : ∀ zs w, (callFunc f zs).run P w = .ok (.enter f zs) w) (p : Nat) (hp : effs[p]? = some i) {va vb vc vd : (Nat → Value) → Value}
    (h : ∀ β bs w, S bs β w → Due ops effs i bs → Calls P f #[va β, vb β, vc β, vd β] w fun e w' => ∃ u, e = .returned u ∧ S (bs.set p true) (upd β i u) w') : Does P effs ops S ⟨i, fun β => [.func (.func f) #[] #[], va β, vb β, vc β, vd β], fun β => β i, .get⟩ := by
  refine ⟨fun β u => upd_same i u, p, hp, ?_⟩
  rintro o h1 β ρ h2 bs w hS hd
  rw [ho] at h1
  cases h1
  rw [hop] at h2
  have h3 : ρ x = .func (.func f) #[] #[] ∧ ρ a = va β ∧ ρ b = vb β ∧ ρ c = vc β ∧ ρ d = vd β := by simpa [Op.operands, Call.operands] using h2
  have hcf := he #[va β, vb β, vc β, vd β] w
  exact ⟨f, _, by simp [execOp, hop, resolve, h3.1, h3.2.1, h3.2.2.1, h3.2.2.2.1, h3.2.2.2.2, invoke, go_sem, hcf], h β bs w hS hd⟩
theorem d_extract {x : Operand} {k : Nat} (hop : o0.op = .extract x k) {vx v : (Nat → Value) → Value} (h : ∀ β bs w, S bs β w → Due ops effs i bs → (Instr.extract (vx β) k).run P w = .ok (v β) w) : Does P effs ops S ⟨i, fun β => [vx β], v, .read⟩ := by
  rintro o h1 β ρ h2 bs w hS hD
  rw [ho] at h1
  cases h1
  rw [hop] at h2
  simp [Op.operands] at h2
  simp [execOp, hop, h2, h β bs w hS hD]
end
end Go.FreeV
