/- A region that draws its order: operations that only reckon, or of which a table tells what they yield, are taken first, many at one stroke. No condition on the program. -/
import Derived.OrdersHeld
import Derived.Deep.RegionHeld
import Derived.WalkKit
import Derived.WalkLawsBesides
import Derived.KernelRfl
namespace Go.Takes
open Go

/-- What a table tells of operation number i: a load of the cell at p; a comparison of two values. -/
inductive Ent where
  | load (i : Nat) (t : TypeId) (p : Addr) (v : Value)
  | cmp (i : Nat) (op : BinOp) (t : TypeId) (x y : Value) (v : Value)
def Ent.Ok (P : Program) (S : World → Prop) : Ent → Prop
  | .load _ t p v => ∀ w, S w → (Instr.loadAt t (.pointer (some p))).run P w = .ok v w
  | .cmp _ op t x y v => ∀ xo yo w, (eqGuard op t xo yo x y).run P w = .ok () w ∧ (binOp op t x y).run P w = .ok v w
def AllOk (P : Program) (S : World → Prop) : List Ent → Prop
  | [] => True
  | e :: r => e.Ok P S ∧ AllOk P S r

/-- What an operation yields, and what must be equal for that. -/
def told (ρ : Operand → Value) (i : Nat) (o : Oper) : List Ent → Option (Value × List (Value × Value))
  | [] => none
  | .load j t p v :: r => if i == j then (match o.op with | .load t' x => if t' == t then some (v, [(ρ x, .pointer (some p))]) else none | _ => none) else told ρ i o r
  | .cmp j op t x y v :: r => if i == j then (match o.op with | .binOp op' t' x' y' _ => if op' == op && t' == t then some (v, [(ρ x', x), (ρ y', y)]) else none | _ => none) else told ρ i o r

def fieldOf (P : Program) (s : TypeId) (f : Nat) : Option Nat :=
  match P.underlying s with
  | some (.struct fs) => match fs[f]? with
    | some fd => match P.info? fd.type with
      | some i => if i.size == 0 then none else some fd.offset
      | none => none
    | none => none
  | _ => none

def isBool (P : Program) (t : TypeId) : Bool :=
  match P.underlying t with
  | some .bool => true
  | _ => false

def val (P : Program) (ρ : Operand → Value) (o : Oper) : Option Value :=
  match o.op with
  | .move x => some (ρ x)
  | .assign x => some (ρ x)
  | .pick c x y => match ρ c with
    | .bool true => some (ρ x)
    | .bool false => some (ρ y)
    | _ => none
  | .unOp .not _ x => match ρ x with
    | .bool b => some (.bool (!b))
    | _ => none
  | .unOp .neg _ x => match ρ x with
    | .int k n => some (.int k (k.wrap (-n)))
    | _ => none
  | .binOp .eql t x y _ => match ρ x, ρ y with
    | .int k m, .int k' n => if k = k' then some (.bool (m == n)) else none
    | .bool m, .bool n => if isBool P t then some (.bool (m == n)) else none
    | _, _ => none
  | .fieldAddr s x f => match ρ x with
    | .pointer (some p) => (fieldOf P s f).map fun k => .pointer (some (p.add k))
    | _ => none
  | _ => none

theorem val_ok {P : Program} {ρ : Operand → Value} {o : Oper} {v : Value} (h : val P ρ o = some v) (w : World) : (execOp ρ o).run P w = .ok (.value v) w := by
  unfold val at h
  split at h
  · rename_i x ho; cases h; simp [execOp, ho, go_sem]
  · rename_i x ho; cases h; simp [execOp, ho, go_sem]
  · rename_i c x y ho
    split at h
    · rename_i hc; cases h; simp [execOp, ho, hc, go_sem]
    · rename_i hc; cases h; simp [execOp, ho, hc, go_sem]
    · cases h
  · rename_i t x ho
    split at h
    · rename_i b hb; cases h; simp [execOp, ho, hb, go_sem]
    · cases h
  · rename_i t x ho
    split at h
    · rename_i k n hb; cases h; simp [execOp, ho, hb, go_sem]
    · cases h
  · rename_i t x y t2 ho
    split at h
    · rename_i k m k' n hx hy
      split at h
      · rename_i hk
        cases h
        subst hk
        simp [execOp, ho, hx, hy, eqGuard, go_sem]
      · cases h
    · rename_i m n hx hy
      split at h
      · rename_i hb
        cases h
        unfold isBool at hb
        split at hb
        · rename_i hu
          have := run_eql_bool (P := P) (w := w) t m n hu
          simp [execOp, ho, hx, hy, eqGuard, this]
        · cases hb
      · cases h
    · cases h
  · rename_i s x f ho
    split at h
    · rename_i p hp
      unfold fieldOf at h
      split at h
      · rename_i fs hs
        split at h
        · rename_i fd hf
          split at h
          · rename_i i hi
            split at h
            · cases h
            · rename_i hz
              cases h
              have hz' : ¬ i.size = 0 := by simpa using hz
              simp [execOp, ho, hp, Instr.fieldAt, Instr.sureAddr, fieldPlace, run_underlying hs, hf, sizeOf, typeInfo, hi, hz', go_sem]
          · cases h
        · cases h
      · cases h
    · cases h
  · cases h

theorem told_ok {P : Program} {S : World → Prop} {ρ : Operand → Value} {i : Nat} {o : Oper} {v : Value} {cs : List (Value × Value)} : ∀ (tab : List Ent), AllOk P S tab → told ρ i o tab = some (v, cs) → (∀ c ∈ cs, c.1 = c.2) → ∀ w, S w → (execOp ρ o).run P w = .ok (.value v) w := by
  intro tab
  induction tab with
  | nil => intro _ h; cases h
  | cons e r ih =>
    intro ha h hc w hw
    obtain ⟨h1, h2⟩ := ha
    cases e with
    | load j t p v' =>
      simp only [told] at h
      split at h
      · split at h
        · rename_i t' x ho
          split at h
          · rename_i ht
            cases h
            have hx : ρ x = .pointer (some p) := hc _ (List.mem_singleton.2 rfl)
            have ht' : t' = t := by simpa using ht
            subst ht'
            simp only [Ent.Ok] at h1
            have g := h1 w hw
            simp [execOp, ho, hx, g]
          · cases h
        · cases h
      · exact ih h2 h hc w hw
    | cmp j op t x y v' =>
      simp only [told] at h
      split at h
      · split at h
        · rename_i op' t' x' y' t2 ho
          split at h
          · rename_i ht
            cases h
            have hx : ρ x' = x := hc (ρ x', x) (by simp)
            have hy : ρ y' = y := hc (ρ y', y) (by simp)
            have ht' : op' = op ∧ t' = t := by simpa using ht
            obtain ⟨rfl, rfl⟩ := ht'
            obtain ⟨g1, g2⟩ := h1 x' y' w
            simp [execOp, ho, hx, hy, g1, g2]
          · cases h
        · cases h
      · exact ih h2 h hc w hw

/-- One operation that may come up now, and may be taken first: what is listed and the frame behind it. -/
def step (P : Program) (tab : List Ent) (ops : Array Oper) (st : Array Bool × Act × List (Value × Value)) (i : Nat) : Option (Array Bool × Act × List (Value × Value)) :=
  match ops[i]? with
  | none => none
  | some o =>
    if !st.1.getD i true && o.after.all (fun e => !Region.binds .any e || st.1.getD e.on false) && Region.free .any ops st.1 i then
      if Region.wanted o (yielded ops st.2.1.tmps) then
        match told st.2.1.eval i o tab with
        | some (v, cs) => some (st.1.setIfInBounds i true, st.2.1.put o.dst v, cs ++ st.2.2)
        | none => match val P st.2.1.eval o with
          | some v => some (st.1.setIfInBounds i true, st.2.1.put o.dst v, st.2.2)
          | none => none
      else some (st.1.setIfInBounds i true, st.2.1.put o.dst undef, st.2.2)
    else none
def run (P : Program) (tab : List Ent) (ops : Array Oper) : List Nat → (Array Bool × Act × List (Value × Value)) → Option (Array Bool × Act × List (Value × Value))
  | [], st => some st
  | i :: r, st => (step P tab ops st i).bind (run P tab ops r)

section
variable {P : Program} {ops : Array Oper} {Q : Exit → Act → World → Prop} {S : World → Prop} {tab : List Ent} {cs : List (Value × Value)}

theorem step_more {st st' : Array Bool × Act × List (Value × Value)} {i : Nat} (h : step P tab ops st i = some st') : ∀ c, c ∈ st.2.2 → c ∈ st'.2.2 := by
  unfold step at h
  split at h
  · cases h
  · split at h
    · split at h
      · split at h
        · cases h; exact fun c hc => List.mem_append_right _ hc
        · split at h
          · cases h; exact fun c hc => hc
          · cases h
      · cases h; exact fun c hc => hc
    · cases h
theorem run_more : ∀ (is : List Nat) {st st' : Array Bool × Act × List (Value × Value)}, run P tab ops is st = some st' → ∀ c, c ∈ st.2.2 → c ∈ st'.2.2
  | [], st, st', h => by cases h; exact fun c hc => hc
  | i :: r, st, st', h => by
    unfold run at h
    obtain ⟨s1, h1, h2⟩ := Option.bind_eq_some_iff.1 h
    exact fun c hc => run_more r h2 c (step_more h1 c hc)

theorem run_ok (hs : Region.noSelect ops = true) (hQ : ∀ d v c a w, Q (.panic c) (a.put d v) w → Q (.panic c) a w) (hT : AllOk P S tab) (hc : ∀ c : Value × Value, c ∈ cs → c.1 = c.2) {w : World} (hS : S w) (fuel : Nat) :
    ∀ (is : List Nat) (st : Array Bool × Act × List (Value × Value)) (l : Array Bool) (a : Act), run P tab ops is st = some (l, a, cs) → wpAnyH P .any ops Q S fuel l a w → wpAnyH P .any ops Q S (fuel + is.length) st.1 st.2.1 w
  | [], st, l, a, h, hw => by cases h; exact hw
  | i :: r, st, l, a, h, hw => by
    unfold run at h
    obtain ⟨s1, h1, h2⟩ := Option.bind_eq_some_iff.1 h
    have ih := run_ok hs hQ hT hc hS fuel r s1 l a h2 hw
    have hm := run_more r h2
    show wpAnyH P .any ops Q S ((fuel + r.length) + 1) st.1 st.2.1 w
    unfold step at h1
    split at h1
    · cases h1
    · rename_i o ho
      split at h1
      · rename_i hg
        simp only [Bool.and_eq_true] at hg
        obtain ⟨⟨g1, g2⟩, g3⟩ := hg
        have hr : (Region.ready .any ops st.1).contains i = true := by
          rw [List.contains_iff_mem]
          refine mem_ready.2 ⟨by simpa using g1, o, ho, fun e he hb => ?_⟩
          have := Array.all_eq_true_iff_forall_mem.1 g2 e he
          simpa [hb] using this
        have key : ∀ v, YieldsIf P ops S o v st.2.1 → wpAnyH P .any ops Q S (fuel + r.length) (st.1.setIfInBounds i true) (st.2.1.put o.dst v) w → wpAnyH P .any ops Q S ((fuel + r.length) + 1) st.1 st.2.1 w := fun v hy hh =>
          wpAnyH_take ho hs g3 hr (hQ _ _) hy hS hh
        split at h1
        · rename_i hwant
          split at h1
          · rename_i v cs' hv
            cases h1
            exact key v (.inl ⟨hwant, told_ok tab hT hv (fun c hc' => hc c (hm c (List.mem_append_left _ hc')))⟩) ih
          · split at h1
            · rename_i v hv
              cases h1
              exact key v (.inl ⟨hwant, fun w _ => val_ok hv w⟩) ih
            · cases h1
        · rename_i hwant
          cases h1
          exact key undef (.inr ⟨by simpa using hwant, rfl⟩) ih
      · cases h1

theorem all_eq : ∀ {cs : List (Value × Value)}, cs.map (·.1) = cs.map (·.2) → ∀ c, c ∈ cs → c.1 = c.2
  | [], _, c, h => by cases h
  | x :: r, hc, c, h => by
    simp only [List.map_cons, List.cons.injEq] at hc
    rcases List.mem_cons.1 h with rfl | h
    · exact hc.1
    · exact all_eq hc.2 c h

/-- What is listed and the frame behind many. -/
def runD (P : Program) (tab : List Ent) (ops : Array Oper) (is : List Nat) (l : Array Bool) (a : Act) : Array Bool × Act × List (Value × Value) := (run P tab ops is (l, a, [])).getD (l, a, [])
/-- Many at one stroke. 'hok', 'hc', 'hn' are for the kernel. -/
theorem takes (is : List Nat) (tab : List Ent) (fuel : Nat) {n : Nat} {l0 : Array Bool} {a0 : Act} {w : World} (hT : AllOk P S tab) (hs : Region.noSelect ops = true) (hQ : ∀ d v c a w, Q (.panic c) (a.put d v) w → Q (.panic c) a w)
    (hn : n = fuel + is.length) (hok : (run P tab ops is (l0, a0, [])).isSome = true) (hc : (runD P tab ops is l0 a0).2.2.map (·.1) = (runD P tab ops is l0 a0).2.2.map (·.2)) (hS : S w)
    (h : wpAnyH P .any ops Q S fuel (runD P tab ops is l0 a0).1 (runD P tab ops is l0 a0).2.1 w) : wpAnyH P .any ops Q S n l0 a0 w := by
  subst hn
  obtain ⟨⟨l, a, cs⟩, e⟩ := Option.isSome_iff_exists.1 hok
  have hd : runD P tab ops is l0 a0 = (l, a, cs) := by unfold runD; rw [e]; rfl
  rw [hd] at hc h
  exact run_ok hs hQ hT (all_eq hc) hS fuel is (l0, a0, []) l a e h

/-- A call of a Go function, where nothing else may come up. -/
theorem call (i fuel : Nat) {o : Oper} {n : Nat} {l : Array Bool} {a : Act} {w : World} {f : FuncId} {args : Array Value} {R : Ending → World → Prop} (hn : n = fuel + 1) (ho : ops[i]? = some o) (hr : Region.ready .any ops l = [i])
    (hwant : Region.wanted o (yielded ops a.tmps) = true) (hrun : (execOp a.eval o).run P w = .ok (.enter f args) w) (hcall : Calls P f args w R)
    (hR : ∀ e w', R e w' → ∃ v, e = .returned v ∧ S w' ∧ wpAnyH P .any ops Q S fuel (l.setIfInBounds i true) (a.put o.dst v) w') : wpAnyH P .any ops Q S n l a w := by
  subst hn
  refine wpAnyH_all hr (by simp) fun j hj => ?_
  rw [List.mem_singleton] at hj
  subst hj
  unfold wpOp
  simp only [ho, hwant, if_true]
  refine .inl ?_
  unfold Oper.wp
  rw [hrun]
  simp only [Oper.upon]
  refine hcall.mono fun e w' he => ?_
  obtain ⟨v, rfl, h1, h2⟩ := hR e w' he
  exact ⟨h1, h2⟩
end
end Go.Takes
