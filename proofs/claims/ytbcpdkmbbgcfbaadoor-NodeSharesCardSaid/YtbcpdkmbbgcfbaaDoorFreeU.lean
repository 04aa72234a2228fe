/- As FreeT, with calls: some answer what is told ahead, some what isn't. No condition on the program. -/
import Derived.Test.YtbcpdkmbbgcfbaaDoorFreeB
namespace Go.FreeU
open Go Go.RowKit Go.Free

/-- What an operation does to memory: nothing, and reads nothing; it reads; it turns it. -/
inductive Kind where
  | pure
  | read
  | eff
  | ask
  | get
/-- An operation's operands and answer, by the answers known by then. -/
structure Row where
  i : Nat
  xs : (Nat → Value) → List Value
  v : (Nat → Value) → Value
  k : Kind
def plain (tab : List Row) (β : Nat → Value) : List (Nat × Free.Ent) := tab.map fun x => (x.i, .gen (x.xs β) (x.v β))
def find : List Row → Nat → Option Row
  | [], _ => none
  | x :: r, i => if Nat.beq x.i i then some x else find r i
def upd (β : Nat → Value) (i : Nat) (v : Value) : Nat → Value := fun j => if j = i then v else β j
/-- Does an operation wait for another one, straight or by others? -/
def depB (ops : Array Oper) : Nat → Nat → Nat → Bool
  | 0, _, _ => false
  | n + 1, i, j => match ops[i]? with
    | none => false
    | some o => waits o j || (List.range ops.size).any fun k => waits o k && depB ops n k j
/-- What is known when an operation comes up: all that it waits for has come up, none that waits for it. -/
def Due (ops : Array Oper) (effs : List Nat) (i : Nat) (bs : List Bool) : Prop :=
  ∀ q j : Nat, effs[q]? = some j → (depB ops ops.size i j = true → bs[q]? = some true) ∧ ((depB ops ops.size j i = true ∨ j = i) → bs[q]? = some false)
def Does (P : Program) (effs : List Nat) (ops : Array Oper) (S : List Bool → (Nat → Value) → World → Prop) (x : Row) : Prop :=
  match x.k with
  | .pure => ∀ o, ops[x.i]? = some o → ∀ β (ρ : Operand → Value), o.op.operands.toList.map ρ = x.xs β → ∀ w, (execOp ρ o).run P w = .ok (.value (x.v β)) w
  | .read => ∀ o, ops[x.i]? = some o → ∀ β (ρ : Operand → Value), o.op.operands.toList.map ρ = x.xs β → ∀ bs w, S bs β w → Due ops effs x.i bs → (execOp ρ o).run P w = .ok (.value (x.v β)) w
  | .eff => (∀ β u, x.v (upd β x.i u) = u) ∧ ∃ p, effs[p]? = some x.i ∧ ∀ o, ops[x.i]? = some o → ∀ β (ρ : Operand → Value), o.op.operands.toList.map ρ = x.xs β → ∀ bs w, S bs β w → Due ops effs x.i bs → ∃ u w', (execOp ρ o).run P w = .ok (.value u) w' ∧ S (bs.set p true) (upd β x.i u) w'
  | .ask => ∀ o, ops[x.i]? = some o → ∀ β (ρ : Operand → Value), o.op.operands.toList.map ρ = x.xs β → ∀ bs w, S bs β w → Due ops effs x.i bs → ∃ f args, (execOp ρ o).run P w = .ok (.enter f args) w ∧ Calls P f args w fun e w' => e = .returned (x.v β) ∧ S bs β w'
  | .get => (∀ β u, x.v (upd β x.i u) = u) ∧ ∃ p, effs[p]? = some x.i ∧ ∀ o, ops[x.i]? = some o → ∀ β (ρ : Operand → Value), o.op.operands.toList.map ρ = x.xs β → ∀ bs w, S bs β w → Due ops effs x.i bs → ∃ f args, (execOp ρ o).run P w = .ok (.enter f args) w ∧ Calls P f args w fun e w' => ∃ u, e = .returned u ∧ S (bs.set p true) (upd β x.i u) w'
def AllDo (P : Program) (effs : List Nat) (ops : Array Oper) (S : List Bool → (Nat → Value) → World → Prop) : List Row → Prop
  | [] => True
  | x :: r => Does P effs ops S x ∧ AllDo P effs ops S r
theorem look_plain (β : Nat → Value) : ∀ (tab : List Row) (i : Nat), Free.look (plain tab β) i = (find tab i).map fun x => Free.Ent.gen (x.xs β) (x.v β)
  | [], _ => rfl
  | x :: r, i => by
    show (if Nat.beq x.i i then some (Free.Ent.gen (x.xs β) (x.v β)) else Free.look (plain r β) i) = _
    unfold find
    split
    · rfl
    · exact look_plain β r i
theorem find_i : ∀ {tab : List Row} {i : Nat} {x : Row}, find tab i = some x → x.i = i
  | [], _, _, h => by cases h
  | y :: r, i, x, h => by
    unfold find at h
    split at h
    · rename_i hj
      cases h
      simpa using hj
    · exact find_i h
theorem AllDo.get {P : Program} {effs : List Nat} {ops : Array Oper} {S : List Bool → (Nat → Value) → World → Prop} : ∀ {tab : List Row}, AllDo P effs ops S tab → ∀ {i x}, find tab i = some x → Does P effs ops S x
  | [], _, i, x, h => by cases h
  | y :: r, ha, i, x, h => by
    unfold find at h
    split at h
    · cases h
      exact ha.1
    · exact ha.2.get h

def rising : List Nat → Bool
  | s :: t :: r => Nat.blt s t && rising (t :: r)
  | _ => true
def isEff : Option Row → Bool
  | some ⟨_, _, _, .eff⟩ => true
  | some ⟨_, _, _, .get⟩ => true
  | _ => false
/-- The operations that turn memory are the listed ones. -/
def tidyT (tab : List Row) (effs : List Nat) (ops : Array Oper) : Bool :=
  rising effs && effs.all fun s => Nat.blt s ops.size && isEff (find tab s)
/-- Which answers an operation's answer hangs on: it waits for them, or it is one itself. -/
def hangs (vs : List (List Nat × (List Value → Value))) (ops : Array Oper) : Bool :=
  (List.range ops.size).all fun i => ((vs[i]?.map (·.1)).getD []).all fun k => Nat.beq k i || depB ops ops.size i k
def told (ops : Array Oper) (a : Act) (i : Nat) : Value := match (ops[i]?).bind (·.dst) with
  | some d => a.eval (.tmp d)
  | none => undef

def waitsAt (ops : Array Oper) (s i : Nat) : Bool := match ops[s]? with
  | some o => waits o i
  | none => false
/-- What the region must be like: each slot has one writer; who reads a slot waits for its writer, and stands behind it, or the writer waits for him, and stands behind him. -/
def formedT (ops : Array Oper) (size : Nat) : Bool :=
  Takes.forward ops && Region.noSelect ops && (List.range ops.size).all fun i => match ops[i]? with
    | none => false
    | some o => (match o.dst with
        | some d => Nat.blt d size && (writers ops d).all fun j => Nat.beq j i
        | none => true) &&
      (o.looksAt ops).all fun d => ((writers ops d).all fun j => Nat.blt j i && waits o j) || (writers ops d).all fun j => Nat.blt i j && waitsAt ops j i

section
variable (P : Program) (tab : List Row) (effs : List Nat) (ops : Array Oper) (a0 : Act) (S : List Bool → (Nat → Value) → World → Prop) (vs : List (List Nat × (List Value → Value)))
structure Inv (β : Nat → Value) (L : Nat → Bool) (a : Act) (w : World) : Prop where
  d : a.defers = a0.defers
  z : a.tmps.size = a0.tmps.size
  t : ∀ d, (∀ j ∈ writers ops d, L j = true) → a.eval (.tmp d) = (fin P (fun _ => 0) (plain tab β) ops a0 (fun _ => 0)).eval (.tmp d)
  u : ∀ d, (∀ j ∈ writers ops d, L j = false) → a.eval (.tmp d) = a0.eval (.tmp d)
  s : S (effs.map L) β w
  cl : ∀ i o j, ops[i]? = some o → L i = true → waits o j = true → L j = true
structure Set : Prop where
  F : formedT ops a0.tmps.size = true
  ok : AllDo P effs ops S tab
  pl : ∀ β, (plan P (fun _ => 0) (plain tab β) ops a0 (fun _ => 0) ops.size).isSome = true
  cs : ∀ β, (planD P (fun _ => 0) (plain tab β) ops a0 (fun _ => 0) ops.size).2.map (·.1) = (planD P (fun _ => 0) (plain tab β) ops a0 (fun _ => 0) ops.size).2.map (·.2)
  ty : tidyT tab effs ops = true
  vt : ∀ β, (List.range ops.size).map (told ops (fin P (fun _ => 0) (plain tab β) ops a0 (fun _ => 0))) = vs.map fun x => x.2 (x.1.map β)
  hg : hangs vs ops = true
end

section
variable {P : Program} {tab : List Row} {effs : List Nat} {ops : Array Oper} {a0 : Act} {S : List Bool → (Nat → Value) → World → Prop} {vs : List (List Nat × (List Value → Value))} {β : Nat → Value} {L : Nat → Bool} {a : Act} {w : World}

theorem formed_op {size i : Nat} {o : Oper} (h : formedT ops size = true) (hi : ops[i]? = some o) :
    (∀ d, o.dst = some d → d < size ∧ ∀ j ∈ writers ops d, j = i) ∧ ∀ d ∈ o.looksAt ops, (∀ j ∈ writers ops d, j < i ∧ waits o j = true) ∨ ∀ j ∈ writers ops d, i < j ∧ waitsAt ops j i = true := by
  unfold formedT at h
  simp only [Bool.and_eq_true, List.all_eq_true, List.mem_range] at h
  have h1 := h.2 i (Array.getElem?_eq_some_iff.1 hi).1
  simp only [hi, Bool.and_eq_true, List.all_eq_true] at h1
  refine ⟨fun d hd => ?_, fun d hd => ?_⟩
  · have h2 := h1.1
    simp only [hd, Bool.and_eq_true, List.all_eq_true] at h2
    exact ⟨by simpa using h2.1, fun j hj => by simpa using h2.2 j hj⟩
  · have h2 := h1.2 d hd
    rw [Bool.or_eq_true, List.all_eq_true, List.all_eq_true] at h2
    rcases h2 with h2 | h2
    · exact .inl fun j hj => by
        have := h2 j hj
        rw [Bool.and_eq_true] at this
        exact ⟨by simpa using this.1, this.2⟩
    · exact .inr fun j hj => by
        have := h2 j hj
        rw [Bool.and_eq_true] at this
        exact ⟨by simpa using this.1, this.2⟩
theorem formed_sel {size : Nat} (h : formedT ops size = true) : Takes.forward ops = true ∧ Region.noSelect ops = true := by
  unfold formedT at h
  simp only [Bool.and_eq_true] at h
  exact h.1
section
variable {T : List (Nat × Free.Ent)}
theorem plan_pre (h : (plan P (fun _ => 0) T ops a0 (fun _ => 0) ops.size).isSome = true) {d : Tmp} : ∀ i, i ≤ ops.size → (∀ j ∈ writers ops d, i ≤ j) → (planD P (fun _ => 0) T ops a0 (fun _ => 0) i).1.eval (.tmp d) = a0.eval (.tmp d)
  | 0, _, _ => rfl
  | i + 1, hi, hd => by
    obtain ⟨v, h1, _⟩ := plan_step h (Array.getElem?_eq_getElem (show i < ops.size by omega))
    rw [h1, eval_put_ne, plan_pre h i (by omega) (fun j hj => by have := hd j hj; omega)]
    intro hn
    have := hd i (mem_writers.2 ⟨_, Array.getElem?_eq_getElem (by omega), hn⟩)
    omega
theorem fin_dst (hF : formedT ops a0.tmps.size = true) (h : (plan P (fun _ => 0) T ops a0 (fun _ => 0) ops.size).isSome = true) {i : Nat} {o : Oper} (hi : ops[i]? = some o) {v : Value} (hv : (planD P (fun _ => 0) T ops a0 (fun _ => 0) (i + 1)).1 = (planD P (fun _ => 0) T ops a0 (fun _ => 0) i).1.put o.dst v) {d : Tmp} (hd : o.dst = some d) :
    (fin P (fun _ => 0) T ops a0 (fun _ => 0)).eval (.tmp d) = v := by
  have hlt : i < ops.size := (Array.getElem?_eq_some_iff.1 hi).1
  obtain ⟨h1, h2⟩ := (formed_op hF hi).1 d hd
  rw [← plan_eval h (ops.size - (i + 1)) (i + 1) (by omega) (fun j hj => by have := h2 j hj; omega), hv, hd, eval_put_eq]
  rw [plan_size h i (by omega)]
  exact h1
theorem fin_puts (hF : formedT ops a0.tmps.size = true) (h : (plan P (fun _ => 0) T ops a0 (fun _ => 0) ops.size).isSome = true) : ∀ n, n ≤ ops.size → (planD P (fun _ => 0) T ops a0 (fun _ => 0) n).1 = puts a0 (trace ops (fin P (fun _ => 0) T ops a0 (fun _ => 0)) n)
  | 0, _ => rfl
  | n + 1, hn => by
    have hi := Array.getElem?_eq_getElem (show n < ops.size by omega)
    obtain ⟨v, h1, _⟩ := plan_step h hi
    rw [h1, fin_puts hF h n (by omega)]
    unfold trace puts
    rw [List.range_succ, List.filterMap_append, List.foldl_append]
    cases hd : (ops[n]'(by omega)).dst with
    | none => simp [hi, hd, Act.put]
    | some d =>
      have := fin_dst hF h hi h1 hd
      simp [hi, hd, this]
end
theorem upd_same (i : Nat) (v : Value) : upd β i v i = v := if_pos rfl
theorem upd_ne {i j : Nat} (h : j ≠ i) (v : Value) : upd β i v j = β j := if_neg h
theorem dep_listed (hcl : ∀ i o j, ops[i]? = some o → L i = true → waits o j = true → L j = true) : ∀ n i j, depB ops n i j = true → L i = true → L j = true
  | 0, _, _, h, _ => by cases h
  | n + 1, i, j, h, hL => by
    unfold depB at h
    split at h
    · cases h
    · rename_i o ho
      rw [Bool.or_eq_true, List.any_eq_true] at h
      rcases h with h | ⟨k, _, h⟩
      · exact hcl i o j ho hL h
      · rw [Bool.and_eq_true] at h
        exact dep_listed hcl n k j h.2 (hcl i o k ho hL h.1)
theorem dep_due (hcl : ∀ i o j, ops[i]? = some o → L i = true → waits o j = true → L j = true) {i : Nat} {o : Oper} (hi : ops[i]? = some o) (hdep : ∀ j, waits o j = true → L j = true) : ∀ n j, depB ops n i j = true → L j = true
  | 0, _, h => by cases h
  | n + 1, j, h => by
    unfold depB at h
    rw [hi] at h
    simp only at h
    rw [Bool.or_eq_true, List.any_eq_true] at h
    rcases h with h | ⟨k, _, h⟩
    · exact hdep j h
    · rw [Bool.and_eq_true] at h
      exact dep_listed hcl n k j h.2 (hdep k h.1)
theorem rising_ne : ∀ {effs : List Nat}, rising effs = true → ∀ {p q i : Nat}, effs[p]? = some i → effs[q]? = some i → p = q := by
  have lt : ∀ (effs : List Nat), rising effs = true → ∀ n p s t, effs[p]? = some s → effs[p + 1 + n]? = some t → s < t := by
    intro effs
    induction effs with
    | nil => intro _ n p s t h; simp at h
    | cons x r ih =>
      intro hr n p s t h1 h2
      cases r with
      | nil => simp at h2
      | cons y r =>
        unfold rising at hr
        simp only [Bool.and_eq_true] at hr
        have hxy : x < y := by simpa using hr.1
        cases p with
        | succ p =>
          rw [show p + 1 + 1 + n = (p + 1 + n) + 1 by omega, List.getElem?_cons_succ] at h2
          exact ih hr.2 n p s t (by simpa using h1) h2
        | zero =>
          simp at h1
          subst h1
          cases n with
          | zero =>
            simp at h2
            omega
          | succ n =>
            rw [show 0 + 1 + (n + 1) = (n + 1) + 1 by omega, List.getElem?_cons_succ] at h2
            have := ih hr.2 n 0 y t (by simp) (by rw [show 0 + 1 + n = n + 1 by omega]; exact h2)
            omega
  intro effs hr p q i h1 h2
  rcases Nat.lt_trichotomy p q with h | h | h
  · have := lt effs hr (q - (p + 1)) p i i h1 (by rw [show p + 1 + (q - (p + 1)) = q by omega]; exact h2)
    omega
  · exact h
  · have := lt effs hr (p - (q + 1)) q i i h2 (by rw [show q + 1 + (p - (q + 1)) = p by omega]; exact h1)
    omega
theorem told_eff (h : tidyT tab effs ops = true) {s : Nat} (hs : s ∈ effs) : s < ops.size ∧ isEff (find tab s) = true := by
  unfold tidyT at h
  simp only [Bool.and_eq_true, List.all_eq_true] at h
  have := h.2 s hs
  exact ⟨by simpa using this.1, this.2⟩
theorem map_other {i : Nat} (h : ∀ s ∈ effs, s ≠ i) : effs.map (fun j => j == i || L j) = effs.map L :=
  List.map_congr_left fun s hs => by simp [h s hs]
theorem map_set (hr : rising effs = true) {p i : Nat} (hp : effs[p]? = some i) : effs.map (fun j => j == i || L j) = (effs.map L).set p true := by
  refine List.ext_getElem? fun q => ?_
  rw [List.getElem?_set, List.getElem?_map, List.getElem?_map]
  by_cases hq : p = q
  · subst hq
    rw [if_pos rfl, hp]
    have := (List.getElem?_eq_some_iff.1 hp).1
    simp [this]
  · rw [if_neg hq]
    cases he : effs[q]? with
    | none => rfl
    | some j =>
      have hj : j ≠ i := by
        rintro rfl
        exact hq (rising_ne hr hp he)
      simp [hj]
theorem hangs_at (h : hangs vs ops = true) {i : Nat} (hi : i < ops.size) {x : List Nat × (List Value → Value)} (hx : vs[i]? = some x) : ∀ k ∈ x.1, k = i ∨ depB ops ops.size i k = true := by
  intro k hk
  unfold hangs at h
  rw [List.all_eq_true] at h
  have h1 := h i (List.mem_range.2 hi)
  rw [hx] at h1
  simp only [Option.map_some, Option.getD_some, List.all_eq_true] at h1
  have := h1 k hk
  rw [Bool.or_eq_true] at this
  rcases this with h2 | h2
  · exact .inl (by simpa using h2)
  · exact .inr h2
theorem fin_told (G : Set P tab effs ops a0 S vs) (β : Nat → Value) {j : Nat} {o : Oper} {d : Tmp} (hj : ops[j]? = some o) (hd : o.dst = some d) : ∃ x, vs[j]? = some x ∧ (fin P (fun _ => 0) (plain tab β) ops a0 (fun _ => 0)).eval (.tmp d) = x.2 (x.1.map β) := by
  have hlt := (Array.getElem?_eq_some_iff.1 hj).1
  have h := congrArg (fun l => l[j]?) (G.vt β)
  simp only [List.getElem?_map, List.getElem?_range hlt, Option.map_some] at h
  cases hx : vs[j]? with
  | none => rw [hx] at h; cases h
  | some x =>
    rw [hx] at h
    simp only [Option.map_some, Option.some.injEq] at h
    refine ⟨x, rfl, ?_⟩
    rw [← h]
    unfold told
    rw [hj]
    simp [hd]
/-- An answer that isn't there yet may be whatever it is. -/
theorem turn_eval (G : Set P tab effs ops a0 S vs) (h : Inv P tab effs ops a0 S β L a w) {i : Nat} (hi : L i = false) (u : Value) (d : Tmp) (hd : ∀ j ∈ writers ops d, L j = true) : a.eval (.tmp d) = (fin P (fun _ => 0) (plain tab (upd β i u)) ops a0 (fun _ => 0)).eval (.tmp d) := by
  rw [h.t d hd]
  by_cases hw : ∃ j, j ∈ writers ops d
  · obtain ⟨j, hj⟩ := hw
    obtain ⟨o, ho, hod⟩ := mem_writers.1 hj
    obtain ⟨x, hx, e1⟩ := fin_told G β ho hod
    obtain ⟨y, hy, e2⟩ := fin_told G (upd β i u) ho hod
    rw [hx] at hy
    cases hy
    rw [e1, e2]
    refine congrArg x.2 (List.map_congr_left fun k hk => ?_)
    have hLj := hd j hj
    have hki : k ≠ i := by
      rintro rfl
      rcases hangs_at G.hg (Array.getElem?_eq_some_iff.1 ho).1 hx k hk with e | e
      · rw [e, hLj] at hi; cases hi
      · rw [dep_listed h.cl _ _ _ e hLj] at hi; cases hi
    exact (upd_ne hki u).symm
  · have hno : ∀ j ∈ writers ops d, j < 0 := fun j hj => absurd ⟨j, hj⟩ hw
    rw [← plan_eval (G.pl β) ops.size 0 (by omega) hno, ← plan_eval (G.pl _) ops.size 0 (by omega) hno]
    rfl

theorem same_eval (G : Set P tab effs ops a0 S vs) (h : Inv P tab effs ops a0 S β L a w) {i : Nat} {o : Oper} (hi : ops[i]? = some o) (hL : L i = false) (hdep : ∀ j, waits o j = true → L j = true) {d : Tmp} (hd : d ∈ o.looksAt ops) :
    a.eval (.tmp d) = (planD P (fun _ => 0) (plain tab β) ops a0 (fun _ => 0) i).1.eval (.tmp d) := by
  have hlt : i < ops.size := (Array.getElem?_eq_some_iff.1 hi).1
  rcases (formed_op G.F hi).2 d hd with hw | hw
  · rw [h.t d (fun j hj => hdep j (hw j hj).2), plan_eval (G.pl β) (ops.size - i) i (by omega) (fun j hj => (hw j hj).1)]
  · rw [plan_pre (G.pl β) i (by omega) (fun j hj => by have := (hw j hj).1; omega)]
    refine h.u d fun j hj => ?_
    cases hq : L j with
    | false => rfl
    | true =>
      have h2 := (hw j hj).2
      unfold waitsAt at h2
      split at h2
      · rename_i o' ho'
        rw [h.cl j o' i ho' hq h2] at hL
        cases hL
      · cases h2
theorem same_op (G : Set P tab effs ops a0 S vs) (h : Inv P tab effs ops a0 S β L a w) {i : Nat} {o : Oper} (hi : ops[i]? = some o) (hL : L i = false) (hdep : ∀ j, waits o j = true → L j = true) :
    execOp a.eval o = execOp (planD P (fun _ => 0) (plain tab β) ops a0 (fun _ => 0) i).1.eval o :=
  execOp_congr o (fun cs b => Region.noSelect_spec (formed_sel G.F).2 i o cs b hi) fun x hx => by
    cases x with
    | tmp d => exact same_eval G h hi hL hdep (List.mem_append_left _ (List.mem_filterMap.2 ⟨.tmp d, by simpa using hx, rfl⟩))
    | _ => rfl
theorem same_wanted (G : Set P tab effs ops a0 S vs) (h : Inv P tab effs ops a0 S β L a w) {i : Nat} {o : Oper} (hi : ops[i]? = some o) (hL : L i = false) (hdep : ∀ j, waits o j = true → L j = true) :
    Region.wanted o (yielded ops a.tmps) = Region.wanted o (yielded ops (planD P (fun _ => 0) (plain tab β) ops a0 (fun _ => 0) i).1.tmps) := by
  have hlt : i < ops.size := (Array.getElem?_eq_some_iff.1 hi).1
  unfold Region.wanted
  cases hg : o.guard with
  | none => rfl
  | some gw =>
    obtain ⟨g, want⟩ := gw
    have hy : yielded ops a.tmps g = yielded ops (planD P (fun _ => 0) (plain tab β) ops a0 (fun _ => 0) i).1.tmps g := by
      unfold yielded
      cases ht : (ops[g]?).bind (·.dst) with
      | none => rfl
      | some t =>
        have h1 := same_eval G h hi hL hdep (d := t) (List.mem_append_right _ (by simp [hg, ht]))
        have hz : a.tmps.size = (planD P (fun _ => 0) (plain tab β) ops a0 (fun _ => 0) i).1.tmps.size := by rw [h.z, plan_size (G.pl β) i (by omega)]
        simp only [Option.bind_some]
        unfold Act.eval at h1
        simp only [Array.getD_eq_getD_getElem?] at h1
        by_cases hlt2 : t < a.tmps.size
        · rw [Array.getElem?_eq_getElem hlt2, Array.getElem?_eq_getElem (Nat.lt_of_lt_of_eq hlt2 hz)] at h1 ⊢
          simp only [Option.getD_some] at h1
          rw [h1]
        · rw [Array.getElem?_eq_none (Nat.not_lt.1 hlt2), Array.getElem?_eq_none (Nat.le_trans (Nat.le_of_eq hz.symm) (Nat.not_lt.1 hlt2))]
    simp only [hy]

theorem Inv.on (G : Set P tab effs ops a0 S vs) (h : Inv P tab effs ops a0 S β L a w) {i : Nat} {o : Oper} (hi : ops[i]? = some o) (hdep : ∀ j, waits o j = true → L j = true) {γ : Nat → Value} (hγ : ∀ d, (∀ j ∈ writers ops d, L j = true) → a.eval (.tmp d) = (fin P (fun _ => 0) (plain tab γ) ops a0 (fun _ => 0)).eval (.tmp d))
    {v : Value} (hv : (planD P (fun _ => 0) (plain tab γ) ops a0 (fun _ => 0) (i + 1)).1 = (planD P (fun _ => 0) (plain tab γ) ops a0 (fun _ => 0) i).1.put o.dst v)
    {w' : World} (hs : S (effs.map (fun j => j == i || L j)) γ w') : Inv P tab effs ops a0 S γ (fun j => j == i || L j) (a.put o.dst v) w' where
  d := by rw [← h.d]; cases o.dst <;> rfl
  z := by rw [size_put]; exact h.z
  t := fun d hd => by
    by_cases e : o.dst = some d
    · rw [fin_dst G.F (G.pl γ) hi hv e, e, eval_put_eq]
      rw [h.z]
      exact ((formed_op G.F hi).1 d e).1
    · rw [eval_put_ne e]
      refine hγ d fun j hj => ?_
      have := hd j hj
      rwa [lor_ne] at this
      rintro rfl
      obtain ⟨o', ho, hod⟩ := mem_writers.1 hj
      rw [hi] at ho
      cases ho
      exact e hod
  u := fun d hd => by
    have hne : o.dst ≠ some d := fun e => by
      have := hd i (mem_writers.2 ⟨o, hi, e⟩)
      simp at this
    rw [eval_put_ne hne]
    refine h.u d fun j hj => ?_
    have := hd j hj
    rw [Bool.or_eq_false_iff] at this
    exact this.2
  s := hs
  cl := fun j o' k hj hl hk => by
    by_cases e : j = i
    · subst e
      rw [hi] at hj
      cases hj
      exact lor_of (hdep k hk)
    · exact lor_of (h.cl j o' k hj (by simpa [e] using hl) hk)

theorem Inv.next (G : Set P tab effs ops a0 S vs) {Q : Exit → Act → World → Prop} {i : Nat} {o : Oper} (hi : ops[i]? = some o) (hL : L i = false) (hdep : ∀ j, waits o j = true → L j = true) (h : ∃ β, Inv P tab effs ops a0 S β L a w) :
    if Region.wanted o (yielded ops a.tmps) = true then o.wp P a w (fun a' w' => ∃ β, Inv P tab effs ops a0 S β (fun j => j == i || L j) a' w') Q else ∃ β, Inv P tab effs ops a0 S β (fun j => j == i || L j) (a.put o.dst undef) w := by
  have hlt : i < ops.size := (Array.getElem?_eq_some_iff.1 hi).1
  obtain ⟨β, h⟩ := h
  obtain ⟨v, hv, hmore, hcase⟩ := plan_step (G.pl β) hi
  have calm : isEff (find tab i) = false → ∀ w', S (effs.map L) β w' → S (effs.map (fun j => j == i || L j)) β w' := fun hn w' hs => by
    rw [map_other]
    · exact hs
    · rintro s hse rfl
      rw [(told_eff G.ty hse).2] at hn
      cases hn
  have due : Due ops effs i (effs.map L) := fun q j hq => by
    rw [List.getElem?_map, hq]
    refine ⟨fun hd => by rw [Option.map_some, dep_due h.cl hi hdep _ _ hd], fun hd => ?_⟩
    rw [Option.map_some]
    congr 1
    rcases hd with hd | rfl
    · cases hq2 : L j with
      | false => rfl
      | true =>
        rw [dep_listed h.cl _ _ _ hd hq2] at hL
        cases hL
    · exact hL
  rw [same_wanted G h hi hL hdep]
  rcases hcase with ⟨hw, cs, hr, hcs⟩ | ⟨hw, hl, rfl⟩
  · rw [if_pos hw]
    have hc : ∀ c ∈ cs, c.1 = c.2 := fun c hc => Takes.all_eq (G.cs β) c (plan_more (G.pl β) (ops.size - (i + 1)) (i + 1) (by omega) c (hcs c hc))
    unfold Oper.wp
    rw [same_op G h hi hL hdep]
    generalize hα : (planD P (fun _ => 0) (plain tab β) ops a0 (fun _ => 0) i).1 = α at hr
    have hv2 : ∀ v', v = v' → (planD P (fun _ => 0) (plain tab β) ops a0 (fun _ => 0) (i + 1)).1 = (planD P (fun _ => 0) (plain tab β) ops a0 (fun _ => 0) i).1.put o.dst v' := fun v' e => by rw [← e]; exact hv
    unfold res at hr
    rw [look_plain] at hr
    cases hf : find tab i with
    | none =>
      rw [hf] at hr
      simp only [Option.map_none] at hr
      obtain ⟨v', hv', he⟩ := Option.map_eq_some_iff.1 hr
      cases he
      rw [Takes.val_ok hv' w]
      exact ⟨β, h.on G hi hdep h.t (hv2 _ rfl) (calm (by rw [hf]; rfl) _ h.s)⟩
    | some x =>
      have hxi := find_i hf
      have hdo := G.ok.get hf
      obtain ⟨i', xs, vf, k⟩ := x
      simp only at hxi
      subst hxi
      rw [hf] at hr
      simp only [Option.map_some] at hr
      cases hr
      have hx := agg_inj (hc (.agg (o.op.operands.toList.map α.eval).toArray, .agg (xs β).toArray) (List.mem_singleton.2 rfl))
      have hx2 : o.op.operands.toList.map α.eval = xs β := List.toArray_inj hx
      cases k with
      | pure =>
        rw [hdo o hi β α.eval hx2 w]
        exact ⟨β, h.on G hi hdep h.t (hv2 _ rfl) (calm (by rw [hf]; rfl) _ h.s)⟩
      | read =>
        rw [hdo o hi β α.eval hx2 _ w h.s due]
        exact ⟨β, h.on G hi hdep h.t (hv2 _ rfl) (calm (by rw [hf]; rfl) _ h.s)⟩
      | eff =>
        obtain ⟨hu, p, hp, hd⟩ := hdo
        obtain ⟨u, w', h1, h2⟩ := hd o hi β α.eval hx2 _ w h.s due
        rw [h1]
        obtain ⟨v2, hv3, _, hcase2⟩ := plan_step (G.pl (upd β i' u)) hi
        have hv4 : v2 = u := by
          rcases hcase2 with ⟨_, cs2, hr2, _⟩ | ⟨_, hl, _⟩
          · unfold res at hr2
            rw [look_plain, hf] at hr2
            simp only [Option.map_some] at hr2
            cases hr2
            exact hu β u
          · rw [look_plain, hf] at hl
            cases hl
        rw [hv4] at hv3
        refine ⟨upd β i' u, h.on G hi hdep (fun d hd => turn_eval G h hL u d hd) hv3 ?_⟩
        have hr0 := G.ty
        unfold tidyT at hr0
        rw [Bool.and_eq_true] at hr0
        rw [map_set hr0.1 hp]
        exact h2
      | ask =>
        obtain ⟨f, args, h1, h2⟩ := hdo o hi β α.eval hx2 _ w h.s due
        rw [h1]
        simp only [Oper.upon]
        refine h2.mono fun e w' he => ?_
        obtain ⟨rfl, hs⟩ := he
        exact ⟨β, h.on G hi hdep h.t (hv2 _ rfl) (calm (by rw [hf]; rfl) _ hs)⟩
      | get =>
        obtain ⟨hu, p, hp, hd⟩ := hdo
        obtain ⟨f, args, h1, h2⟩ := hd o hi β α.eval hx2 _ w h.s due
        rw [h1]
        simp only [Oper.upon]
        refine h2.mono fun e w' he => ?_
        obtain ⟨u, rfl, h2⟩ := he
        obtain ⟨v2, hv3, _, hcase2⟩ := plan_step (G.pl (upd β i' u)) hi
        have hv4 : v2 = u := by
          rcases hcase2 with ⟨_, cs2, hr2, _⟩ | ⟨_, hl, _⟩
          · unfold res at hr2
            rw [look_plain, hf] at hr2
            simp only [Option.map_some] at hr2
            cases hr2
            exact hu β u
          · rw [look_plain, hf] at hl
            cases hl
        rw [hv4] at hv3
        refine ⟨upd β i' u, h.on G hi hdep (fun d hd => turn_eval G h hL u d hd) hv3 ?_⟩
        have hr0 := G.ty
        unfold tidyT at hr0
        rw [Bool.and_eq_true] at hr0
        rw [map_set hr0.1 hp]
        exact h2
  · rw [hw, if_neg (by simp)]
    rw [look_plain] at hl
    have hn : find tab i = none := by
      cases hf : find tab i with
      | none => rfl
      | some x => rw [hf] at hl; cases hl
    exact ⟨β, h.on G hi hdep h.t hv (calm (by rw [hn]; rfl) _ h.s)⟩

/-- The region, once for all orders. -/
theorem region_puts {id : Nat} {Q : Exit → Act → World → Prop} (hm : P.follows .mixedOrders = true) (G : Set P tab effs ops a0 S vs) (h0 : S (effs.map fun _ => false) (fun _ => undef) w.drew) (ps : (Nat → Value) → List (Tmp × Value)) (hps : ∀ β, trace ops (fin P (fun _ => 0) (plain tab β) ops a0 (fun _ => 0)) ops.size = ps β)
    (hend : ∀ β w', S (effs.map fun _ => true) β w' → Q .normal (puts a0 (ps β)) w') : (Code.region id ops true).wp P Q a0 w := by
  refine Takes.wp_region_inv hm (fun L a w' => ∃ β, Inv P tab effs ops a0 S β L a w') ?_ ?_ ?_ (formed_sel G.F).1
  · refine ⟨fun _ => undef, rfl, rfl, fun d hd => ?_, fun _ _ => rfl, h0, fun i o j _ h => (by cases h)⟩
    have hno : ∀ j ∈ writers ops d, j < 0 := fun j hj => by cases hd j hj
    rw [← plan_eval (G.pl _) ops.size 0 (by omega) hno]
    rfl
  · rintro L a w' i o hi hL hdep hI
    exact Inv.next G (Q := Q) hi hL (fun j hj => by obtain ⟨e, he, hb, rfl⟩ := waits_spec hj; exact hdep e he hb) hI
  · rintro L a w' hall ⟨β, h⟩
    have hs := h.s
    rw [List.map_congr_left (g := fun _ => true) fun s hs => hall s (told_eff G.ty hs).1] at hs
    have hq := hend β w' hs
    rw [← hps, ← fin_puts G.F (G.pl β) ops.size (Nat.le_refl _)] at hq
    have ez : a.tmps.size = (fin P (fun _ => 0) (plain tab β) ops a0 (fun _ => 0)).tmps.size := by rw [h.z]; exact (plan_size (G.pl β) ops.size (Nat.le_refl _)).symm
    have et : a.tmps = (fin P (fun _ => 0) (plain tab β) ops a0 (fun _ => 0)).tmps := by
      refine Array.ext ez fun d h1 h2 => ?_
      have h3 := h.t d (fun j hj => by obtain ⟨o, ho, _⟩ := mem_writers.1 hj; exact hall j (Array.getElem?_eq_some_iff.1 ho).1)
      unfold Act.eval at h3
      simp only [Array.getD_eq_getD_getElem?] at h3
      rwa [Array.getElem?_eq_getElem h1, Array.getElem?_eq_getElem h2] at h3
    have ed : a.defers = (fin P (fun _ => 0) (plain tab β) ops a0 (fun _ => 0)).defers := by rw [h.d]; exact (plan_defers (G.pl β) ops.size (Nat.le_refl _)).symm
    have : a = fin P (fun _ => 0) (plain tab β) ops a0 (fun _ => 0) := by
      cases a
      generalize fin P (fun _ => 0) (plain tab β) ops a0 (fun _ => 0) = b at et ed
      cases b
      simp only at et ed
      rw [et, ed]
    rw [this]
    exact hq
end
end Go.FreeU
