/- A region that draws its order, once for all orders, where calls may answer what is known by its properties alone, and values may hang on new blocks' numbers: the table is a function of what comes up. No condition on the program. -/
import Derived.Test.YtjlifkhpohfiaaaVGen
namespace Go.FreeX
open Go Go.RowKit Go.Free

/-- What a table tells of an operation. -/
inductive Ent where
  | load (t : TypeId) (p : Addr) (v : Value)
  | cmp (op : BinOp) (t : TypeId) (x y : Value) (v : Value)
  | call (f : FuncId) (args : List Value) (v : Value)
  | make (t : TypeId) (ks : List Nat) (ps : List Value) (v : Value)
  | new (t : TypeId) (zs : List Value)
  | row (t e : TypeId) (n : Nat) (ks : List Nat) (ps : List Value) (zs : List Value)
  | put (t : TypeId) (g : Tgt) (x : Value) (vs : List Value)
  | gen (xs : List Value) (v : Value)
  | mk (t e : TypeId) (xl xc : Value) (n c : Nat) (zs : List Value)
  | rel (f : FuncId) (args : List Value) (Φ : Value → World → Prop)
  | app (xs : List Value) (Φ : Value → World → Prop)

def Ent.Ok (P : Program) (S F : World → Prop) (oo : Option Oper) (K : World → World → Prop) (D : Value → World → Prop) : Ent → Prop
  | .load t p v => ∀ w, S w → F w → (Instr.loadAt t (.pointer (some p))).run P w = .ok v w
  | .cmp op t x y v => ∀ xo yo w, (eqGuard op t xo yo x y).run P w = .ok () w ∧ (binOp op t x y).run P w = .ok v w
  | .call f args v => (∀ as w, (callFunc f as).run P w = .ok (.enter f as) w) ∧ ∀ w, S w → F w → Calls P f args.toArray w fun e w' => e = .returned v ∧ Below w.heap.size w w'
  | .make t ks ps v => ∀ w, S w → F w → (Instr.build t (zipped ks ps)).run P w = .ok v w
  | .new t zs => ∀ w, (Instr.alloc t true (.tuple #[])).run P w = .ok (.pointer (some ⟨w.heap.size, 0, none⟩)) (w.alloc (.cells zs.toArray t))
  | .row t e n ks ps zs => ∀ w, (Instr.buildSlice t n (zipped ks ps)).run P w = .ok (.slice (some ⟨w.heap.size, 0, none⟩) n n) (w.alloc (.cells zs.toArray e))
  | .put t _ x vs => ∀ b w zs, S w → F w → zs.length = vs.length → Holds b zs w → (Instr.storeAt t (.pointer (some ⟨b, 0, none⟩)) x).run P w = .ok () (w.setCells b 0 vs)
  | .gen xs v => ∀ o, oo = some o → ∀ ρ : Operand → Value, o.op.operands.toList.map ρ = xs → ∀ w, S w → F w → (execOp ρ o).run P w = .ok (.value v) w
  | .mk t e xl xc n c zs => ∀ w, (Instr.makeSlice t xl xc).run P w = .ok (.slice (some ⟨w.heap.size, 0, none⟩) n c) (w.alloc (.cells zs.toArray e))
  | .rel f args Φ => (∀ as w, (callFunc f as).run P w = .ok (.enter f as) w) ∧ ∀ w, S w → F w → Calls P f args.toArray w fun e w' => ∃ v, e = .returned v ∧ Φ v w' ∧ Below w.heap.size w w' ∧ D v w
  | .app xs Φ => ∀ o, oo = some o → ∀ ρ : Operand → Value, o.op.operands.toList.map ρ = xs → ∀ w, S w → F w → ∃ v w', (execOp ρ o).run P w = .ok (.value v) w' ∧ Φ v w' ∧ K w w' ∧ D v w

def look : List (Nat × Ent) → Nat → Option Ent
  | [], _ => none
  | (j, e) :: r, i => if Nat.beq j i then some e else look r i
def relOf : Option Ent → Option (Value → World → Prop)
  | some (.rel _ _ Φ) => some Φ
  | some (.app _ Φ) => some Φ
  | _ => none
def newOf : Option Ent → Option (List Value)
  | some (.new _ zs) => some zs
  | some (.row _ _ _ _ _ zs) => some zs
  | some (.mk _ _ _ _ _ _ zs) => some zs
  | _ => none
/-- Does an operation wait for another one, straight or by others? -/
def depB (ops : Array Oper) : Nat → Nat → Nat → Bool
  | 0, _, _ => false
  | n + 1, i, j => match ops[i]? with
    | none => false
    | some o => waits o j || (List.range ops.size).any fun k => waits o k && depB ops n k j
/-- What is known of the answers that an operation waits for. -/
def Fac (tab : List (Nat × Ent)) (β : Nat → Nat × Value) (ops : Array Oper) (i : Nat) (w : World) : Prop := ∀ j Φ, relOf (look tab j) = some Φ → depB ops ops.size i j = true → Φ (β j).2 w
/-- What an operation may leave: new blocks alone; or, where the region makes no block that is told, blocks of its own turned, and what is known of earlier answers still known. -/
def Kept (N0 : Nat) (T : List (Nat × Ent)) (β : Nat → Nat × Value) (ops : Array Oper) (i : Nat) (w w' : World) : Prop :=
  Below w.heap.size w w' ∨ ((∀ j, newOf (look T j) = none) ∧ w.heap.size ≤ w'.heap.size ∧ Below N0 w w' ∧ ∀ j Φ, relOf (look T j) = some Φ → depB ops ops.size j i = false → Φ (β j).2 w → Φ (β j).2 w')
/-- An answer is far from the blocks that the region has made by now. -/
def Fresh (far : Value → Nat → Prop) (N0 : Nat) (v : Value) (w : World) : Prop := ∀ b, N0 ≤ b → b < w.heap.size → far v b
def AllOk (P : Program) (S : World → Prop) (far : Value → Nat → Prop) (N0 : Nat) (T : List (Nat × Ent)) (β : Nat → Nat × Value) (ops : Array Oper) : List (Nat × Ent) → Prop
  | [] => True
  | (i, e) :: r => e.Ok P S (Fac T β ops i) ops[i]? (Kept N0 T β ops i) (Fresh far N0) ∧ AllOk P S far N0 T β ops r
theorem AllOk.get {P : Program} {S : World → Prop} {far : Value → Nat → Prop} {N0 : Nat} {T : List (Nat × Ent)} {β : Nat → Nat × Value} {ops : Array Oper} : ∀ {tab : List (Nat × Ent)}, AllOk P S far N0 T β ops tab → ∀ {i e}, look tab i = some e → e.Ok P S (Fac T β ops i) ops[i]? (Kept N0 T β ops i) (Fresh far N0)
  | [], _, i, e, h => by cases h
  | (j, e') :: r, ha, i, e, h => by
    unfold look at h
    split at h
    · rename_i hj
      have : j = i := by simpa using hj
      subst this
      cases h
      exact ha.1
    · exact ha.2.get h

def blk (om : Nat → Nat) (β : Nat → Nat × Value) : Tgt → Nat
  | .own i => (β i).1
  | .old p => om p

/-- What an operation yields, and what must be equal for that. -/
def res (P : Program) (om : Nat → Nat) (tab : List (Nat × Ent)) (β : Nat → Nat × Value) (ρ : Operand → Value) (i : Nat) (o : Oper) : Option (Value × List (Value × Value)) :=
  match look tab i with
  | none => (Go.Takes.val P ρ o).map fun v => (v, [])
  | some (.load t p v) => match o.op with
    | .load t' x => if t' = t then some (v, [(ρ x, .pointer (some p))]) else none
    | _ => none
  | some (.cmp op t x y v) => match o.op with
    | .binOp op' t' x' y' _ => if op' = op ∧ t' = t then some (v, [(ρ x', x), (ρ y', y)]) else none
    | _ => none
  | some (.call f args v) => match o.op with
    | .call c => match c.callee with
      | .value (.func g) => if g = f then some (v, [(.agg (c.args.map ρ), .agg args.toArray)]) else none
      | _ => none
    | _ => none
  | some (.make t ks ps v) => match o.op with
    | .build t' qs => if t' = t ∧ qs.toList.map (·.1) = ks then some (v, [(.agg (qs.toList.map fun q => ρ q.2).toArray, .agg ps.toArray)]) else none
    | _ => none
  | some (.new t _) => match o.op with
    | .alloc t' => if t' = t then some (.pointer (some ⟨(β i).1, 0, none⟩), []) else none
    | _ => none
  | some (.row t _ n ks ps _) => match o.op with
    | .buildSlice t' n' qs => if t' = t ∧ n' = n ∧ qs.toList.map (·.1) = ks then some (.slice (some ⟨(β i).1, 0, none⟩) n n, [(.agg (qs.toList.map fun q => ρ q.2).toArray, .agg ps.toArray)]) else none
    | _ => none
  | some (.put t g x _) => match o.op with
    | .store t' a y => if t' = t then some (undef, [(ρ a, .pointer (some ⟨blk om β g, 0, none⟩)), (ρ y, x)]) else none
    | _ => none
  | some (.mk t _ xl xc n k _) => match o.op with
    | .makeSlice t' l r => if t' = t then some (.slice (some ⟨(β i).1, 0, none⟩) n k, [(ρ l, xl), (ρ r, xc)]) else none
    | _ => none
  | some (.rel f args _) => match o.op with
    | .call c => match c.callee with
      | .value (.func g) => if g = f then some ((β i).2, [(.agg (c.args.map ρ), .agg args.toArray)]) else none
      | _ => none
    | _ => none
  | some (.gen xs v) => some (v, [(.agg (o.op.operands.toList.map ρ).toArray, .agg xs.toArray)])
  | some (.app xs _) => some ((β i).2, [(.agg (o.op.operands.toList.map ρ).toArray, .agg xs.toArray)])

/-- One operation in the order of the text. -/
def step (P : Program) (om : Nat → Nat) (tab : List (Nat × Ent)) (ops : Array Oper) (β : Nat → Nat × Value) (i : Nat) (st : Act × List (Value × Value)) : Option (Act × List (Value × Value)) :=
  match ops[i]? with
  | none => none
  | some o =>
    if Region.wanted o (yielded ops st.1.tmps) then (res P om tab β st.1.eval i o).map fun r => (st.1.put o.dst r.1, r.2 ++ st.2)
    else match look tab i with
      | none => some (st.1.put o.dst undef, st.2)
      | some _ => none
def plan (P : Program) (om : Nat → Nat) (tab : List (Nat × Ent)) (ops : Array Oper) (a0 : Act) (β : Nat → Nat × Value) : Nat → Option (Act × List (Value × Value))
  | 0 => some (a0, [])
  | n + 1 => (plan P om tab ops a0 β n).bind (step P om tab ops β n)
def planD (P : Program) (om : Nat → Nat) (tab : List (Nat × Ent)) (ops : Array Oper) (a0 : Act) (β : Nat → Nat × Value) (n : Nat) : Act × List (Value × Value) := (plan P om tab ops a0 β n).getD (a0, [])

/-- The frame behind the region. -/
def fin (P : Program) (om : Nat → Nat) (tab : List (Nat × Ent)) (ops : Array Oper) (a0 : Act) (β : Nat → Nat × Value) : Act := (planD P om tab ops a0 β ops.size).1

def putsOf : List (Nat × Ent) → Tgt → Option Nat
  | [], _ => none
  | (i, .put _ h _ _) :: r, g => if g.same h then some i else putsOf r g
  | _ :: r, g => putsOf r g
/-- What operation i stores into the block g. -/
def into (tab : List (Nat × Ent)) (i : Nat) (g : Tgt) : Option (List Value) := match look tab i with
  | some (.put _ h _ vs) => if g.same h then some vs else none
  | _ => none
/-- What a block holds when the operations of L have come up. -/
def cur (tab : List (Nat × Ent)) (L : Nat → Bool) (g : Tgt) (zs : List Value) : List Value := match putsOf tab g with
  | some i => if L i then (into tab i g).getD zs else zs
  | none => zs
/-- The table: no block stored into twice, each store behind its block. -/
def tidy (tab : List (Nat × Ent)) (ops : Array Oper) (olds : List (Nat × List Value)) : Bool :=
  (tab.all fun x => Nat.blt x.1 ops.size && match look tab x.1 with
    | some (.put _ g _ vs) => (match putsOf tab g with
        | some i => Nat.beq i x.1
        | none => false) && (match g with
        | .own j => (match newOf (look tab j), ops[x.1]? with
          | some zs, some o => Nat.beq zs.length vs.length && waits o j
          | _, _ => false)
        | .old p => olds.any (fun y => Nat.beq y.1 p) && olds.all fun y => !Nat.beq y.1 p || Nat.beq y.2.length vs.length)
    | _ => true)

theorem look_mem : ∀ {tab : List (Nat × Ent)} {i : Nat} {e : Ent}, look tab i = some e → ∃ e', (i, e') ∈ tab
  | (j, e') :: r, i, e, h => by
    unfold look at h
    split at h
    · rename_i hj
      have : j = i := by simpa using hj
      subst this
      exact ⟨e', List.mem_cons_self ..⟩
    · obtain ⟨e2, h2⟩ := look_mem h
      exact ⟨e2, List.mem_cons_of_mem _ h2⟩
theorem tidy_lt {tab : List (Nat × Ent)} {ops : Array Oper} {olds : List (Nat × List Value)} (h : tidy tab ops olds = true) {i : Nat} {e : Ent} (hi : (i, e) ∈ tab) : i < ops.size := by
  unfold tidy at h
  rw [List.all_eq_true] at h
  have h1 := h _ hi
  simp only [Bool.and_eq_true] at h1
  simpa using h1.1
theorem puts_mem : ∀ {tab : List (Nat × Ent)} {g : Tgt} {k : Nat}, putsOf tab g = some k → ∃ e, (k, e) ∈ tab
  | (i, e) :: r, g, k, h => by
    cases e with
    | put t h' x vs =>
      unfold putsOf at h
      split at h
      · cases h
        exact ⟨_, List.mem_cons_self ..⟩
      · obtain ⟨e, he⟩ := puts_mem h
        exact ⟨e, List.mem_cons_of_mem _ he⟩
    | _ =>
      obtain ⟨e, he⟩ := puts_mem (tab := r) h
      exact ⟨e, List.mem_cons_of_mem _ he⟩
theorem tidy_put {tab : List (Nat × Ent)} {ops : Array Oper} {olds : List (Nat × List Value)} (h : tidy tab ops olds = true) {i : Nat} {t : TypeId} {g : Tgt} {x : Value} {vs : List Value} (hi : look tab i = some (.put t g x vs)) :
    putsOf tab g = some i ∧ (∀ j, g = .own j → ∃ zs o, newOf (look tab j) = some zs ∧ ops[i]? = some o ∧ zs.length = vs.length ∧ waits o j = true) ∧ (∀ p, g = .old p → (∃ zs, (p, zs) ∈ olds) ∧ ∀ zs, (p, zs) ∈ olds → zs.length = vs.length) := by
  obtain ⟨e', hm⟩ := look_mem hi
  unfold tidy at h
  rw [List.all_eq_true] at h
  have h1 := h _ hm
  simp only [hi, Bool.and_eq_true] at h1
  obtain ⟨_, h2, h3⟩ := h1
  refine ⟨?_, ?_, ?_⟩
  · split at h2
    · rename_i k hk
      have : k = i := by simpa using h2
      rw [hk, this]
    · cases h2
  · rintro j rfl
    simp only at h3
    split at h3
    · rename_i zs o hz ho
      simp only [Bool.and_eq_true] at h3
      exact ⟨zs, o, hz, ho, by simpa using h3.1, h3.2⟩
    · cases h3
  · rintro p rfl
    simp only [Bool.and_eq_true, List.any_eq_true, List.all_eq_true] at h3
    obtain ⟨⟨y, hy, hy2⟩, h5⟩ := h3
    have e : y.1 = p := by simpa using hy2
    subst e
    refine ⟨⟨y.2, hy⟩, fun zs hz => ?_⟩
    have := h5 _ hz
    simpa using this

section
variable {P : Program} {om : Nat → Nat} {tab : List (Nat × Ent)} {ops : Array Oper} {a0 : Act} {β : Nat → Nat × Value}

theorem plan_some (h : (plan P om tab ops a0 β ops.size).isSome = true) : ∀ k i, i + k = ops.size → ∃ st, plan P om tab ops a0 β i = some st
  | 0, i, e => by
    rw [Nat.add_zero] at e
    subst e
    exact Option.isSome_iff_exists.1 h
  | k + 1, i, e => by
    obtain ⟨st, h1⟩ := plan_some h k (i + 1) (by omega)
    unfold plan at h1
    obtain ⟨s1, h2, _⟩ := Option.bind_eq_some_iff.1 h1
    exact ⟨s1, h2⟩
/-- What the plan says of operation i. -/
theorem plan_step (h : (plan P om tab ops a0 β ops.size).isSome = true) {i : Nat} {o : Oper} (hi : ops[i]? = some o) :
    ∃ v, (planD P om tab ops a0 β (i + 1)).1 = (planD P om tab ops a0 β i).1.put o.dst v ∧ (∀ c ∈ (planD P om tab ops a0 β i).2, c ∈ (planD P om tab ops a0 β (i + 1)).2) ∧
      ((Region.wanted o (yielded ops (planD P om tab ops a0 β i).1.tmps) = true ∧ ∃ cs, res P om tab β (planD P om tab ops a0 β i).1.eval i o = some (v, cs) ∧ ∀ c ∈ cs, c ∈ (planD P om tab ops a0 β (i + 1)).2) ∨
       (Region.wanted o (yielded ops (planD P om tab ops a0 β i).1.tmps) = false ∧ look tab i = none ∧ v = undef)) := by
  have hlt : i < ops.size := (Array.getElem?_eq_some_iff.1 hi).1
  obtain ⟨st, h1⟩ := plan_some h (ops.size - i) i (by omega)
  obtain ⟨st', h2⟩ := plan_some h (ops.size - (i + 1)) (i + 1) (by omega)
  have h3 := h2
  unfold plan at h3
  rw [h1] at h3
  simp only [Option.bind_some] at h3
  unfold planD
  rw [h1, h2]
  simp only [Option.getD_some]
  unfold step at h3
  rw [hi] at h3
  simp only at h3
  split at h3
  · rename_i hw
    obtain ⟨r, hr, he⟩ := Option.map_eq_some_iff.1 h3
    subst he
    exact ⟨r.1, rfl, fun c hc => List.mem_append_right _ hc, .inl ⟨hw, r.2, hr, fun c hc => List.mem_append_left _ hc⟩⟩
  · rename_i hw
    split at h3
    · rename_i hl
      cases h3
      exact ⟨undef, rfl, fun c hc => hc, .inr ⟨by simpa using hw, hl, rfl⟩⟩
    · cases h3
theorem plan_size (h : (plan P om tab ops a0 β ops.size).isSome = true) : ∀ i, i ≤ ops.size → (planD P om tab ops a0 β i).1.tmps.size = a0.tmps.size
  | 0, _ => rfl
  | i + 1, hi => by
    obtain ⟨v, h1, _⟩ := plan_step h (Array.getElem?_eq_getElem (show i < ops.size by omega))
    rw [h1, size_put]
    exact plan_size h i (by omega)
theorem plan_defers (h : (plan P om tab ops a0 β ops.size).isSome = true) : ∀ i, i ≤ ops.size → (planD P om tab ops a0 β i).1.defers = a0.defers
  | 0, _ => rfl
  | i + 1, hi => by
    obtain ⟨v, h1, _⟩ := plan_step h (Array.getElem?_eq_getElem (show i < ops.size by omega))
    rw [h1, ← plan_defers h i (by omega)]
    cases (ops[i]'(by omega)).dst <;> rfl
theorem plan_more (h : (plan P om tab ops a0 β ops.size).isSome = true) : ∀ k i, i + k = ops.size → ∀ c ∈ (planD P om tab ops a0 β i).2, c ∈ (planD P om tab ops a0 β ops.size).2
  | 0, i, e => by
    rw [Nat.add_zero] at e
    subst e
    exact fun c hc => hc
  | k + 1, i, e => fun c hc => by
    obtain ⟨v, _, h2, _⟩ := plan_step h (Array.getElem?_eq_getElem (show i < ops.size by omega))
    exact plan_more h k (i + 1) (by omega) c (h2 c hc)
/-- A slot that nobody writes from i on. -/
theorem plan_eval (h : (plan P om tab ops a0 β ops.size).isSome = true) {d : Tmp} : ∀ k i, i + k = ops.size → (∀ j ∈ writers ops d, j < i) → (planD P om tab ops a0 β i).1.eval (.tmp d) = (fin P om tab ops a0 β).eval (.tmp d)
  | 0, i, e, _ => by
    rw [Nat.add_zero] at e
    subst e
    rfl
  | k + 1, i, e, hd => by
    have hlt : i < ops.size := by omega
    obtain ⟨v, h1, _⟩ := plan_step h (Array.getElem?_eq_getElem hlt)
    rw [← plan_eval h k (i + 1) (by omega) (fun j hj => by have := hd j hj; omega), h1, eval_put_ne]
    intro hn
    have := hd i (mem_writers.2 ⟨_, Array.getElem?_eq_getElem hlt, hn⟩)
    omega
theorem fin_dst (hF : formed ops a0.tmps.size = true) (h : (plan P om tab ops a0 β ops.size).isSome = true) {i : Nat} {o : Oper} (hi : ops[i]? = some o) {v : Value} (hv : (planD P om tab ops a0 β (i + 1)).1 = (planD P om tab ops a0 β i).1.put o.dst v) {d : Tmp} (hd : o.dst = some d) :
    (fin P om tab ops a0 β).eval (.tmp d) = v := by
  have hlt : i < ops.size := (Array.getElem?_eq_some_iff.1 hi).1
  obtain ⟨h1, h2⟩ := (formed_op hF hi).1 d hd
  rw [← plan_eval h (ops.size - (i + 1)) (i + 1) (by omega) (fun j hj => by have := h2 j hj; omega), hv, hd, eval_put_eq]
  rw [plan_size h i (by omega)]
  exact h1
end
end Go.FreeX
