/- A region that draws its order, once for all orders, where operations read what the region itself stores later on: the stores come one behind the other, each behind all that reads. No condition on the program. -/
import Derived.Test.YthglldnhffkefaaFreeB
namespace Go.FreeS
open Go Go.RowKit Go.Free

/-- What an operation does to memory: nothing, and reads nothing; it reads; it calls; it is the store number k. -/
inductive Kind where
  | pure
  | read
  | call (f : FuncId) (args : List Value)
  | put (k : Nat)

def plain (tab : List (Nat × List Value × Value × Kind)) : List (Nat × Free.Ent) := tab.map fun x => (x.1, .gen x.2.1 x.2.2.1)
def find : List (Nat × List Value × Value × Kind) → Nat → Option (List Value × Value × Kind)
  | [], _ => none
  | x :: r, i => if Nat.beq x.1 i then some x.2 else find r i
def Does (P : Program) (S : Nat → World → Prop) (oo : Option Oper) (xs : List Value) (v : Value) : Kind → Prop
  | .pure => ∀ o, oo = some o → ∀ ρ : Operand → Value, o.op.operands.toList.map ρ = xs → ∀ w, (execOp ρ o).run P w = .ok (.value v) w
  | .read => ∀ o, oo = some o → ∀ ρ : Operand → Value, o.op.operands.toList.map ρ = xs → ∀ w, S 0 w → (execOp ρ o).run P w = .ok (.value v) w
  | .call f args => ∀ o, oo = some o → ∀ ρ : Operand → Value, o.op.operands.toList.map ρ = xs → ∀ w, S 0 w → (execOp ρ o).run P w = .ok (.enter f args.toArray) w ∧ Calls P f args.toArray w fun e w' => e = .returned v ∧ S 0 w'
  | .put k => v = undef ∧ ∀ o, oo = some o → ∀ ρ : Operand → Value, o.op.operands.toList.map ρ = xs → ∀ w, S k w → ∃ w', (execOp ρ o).run P w = .ok .skip w' ∧ S (k + 1) w'
def AllDo (P : Program) (S : Nat → World → Prop) (ops : Array Oper) : List (Nat × List Value × Value × Kind) → Prop
  | [] => True
  | x :: r => Does P S ops[x.1]? x.2.1 x.2.2.1 x.2.2.2 ∧ AllDo P S ops r
theorem look_plain : ∀ (tab : List (Nat × List Value × Value × Kind)) (i : Nat), Free.look (plain tab) i = (find tab i).map fun x => Free.Ent.gen x.1 x.2.1
  | [], _ => rfl
  | x :: r, i => by
    show (if Nat.beq x.1 i then some (Free.Ent.gen x.2.1 x.2.2.1) else Free.look (plain r) i) = _
    unfold find
    split
    · rfl
    · exact look_plain r i
theorem AllDo.get {P : Program} {S : Nat → World → Prop} {ops : Array Oper} : ∀ {tab : List (Nat × List Value × Value × Kind)}, AllDo P S ops tab → ∀ {i x}, find tab i = some x → Does P S ops[i]? x.1 x.2.1 x.2.2
  | [], _, i, x, h => by cases h
  | y :: r, ha, i, x, h => by
    unfold find at h
    split at h
    · rename_i hj
      have : y.1 = i := by simpa using hj
      subst this
      cases h
      exact ha.1
    · exact ha.2.get h

/-- How many of the stores have come up. -/
def stage (sts : List Nat) (L : Nat → Bool) : Nat := (sts.takeWhile L).length
def waitsAt (ops : Array Oper) (s i : Nat) : Bool := match ops[s]? with
  | some o => waits o i
  | none => false
def chain (ops : Array Oper) : List Nat → Bool
  | s :: t :: r => waitsAt ops t s && Nat.blt s t && chain ops (t :: r)
  | _ => true
/-- The table: each store behind the one ahead of it, and behind all that reads. -/
def tidyS (tab : List (Nat × List Value × Value × Kind)) (sts : List Nat) (ops : Array Oper) : Bool :=
  chain ops sts && (sts.all fun s => Nat.blt s ops.size && match find tab s with
    | some (_, _, .put _) => true
    | _ => false) && (List.range ops.size).all fun i => match find tab i with
    | some (_, _, .read) => sts.all fun s => waitsAt ops s i
    | some (_, _, .call _ _) => sts.all fun s => waitsAt ops s i
    | some (_, _, .put k) => (match sts[k]? with
      | some s => Nat.beq s i
      | none => false)
    | _ => true

structure Inv (P : Program) (tab : List (Nat × List Value × Value × Kind)) (sts : List Nat) (ops : Array Oper) (a0 : Act) (S : Nat → World → Prop) (L : Nat → Bool) (a : Act) (w : World) : Prop where
  d : a.defers = a0.defers
  z : a.tmps.size = a0.tmps.size
  t : ∀ d, (∀ j ∈ writers ops d, L j = true) → a.eval (.tmp d) = (fin P (fun _ => 0) (plain tab) ops a0 (fun _ => 0)).eval (.tmp d)
  s : S (stage sts L) w
  cl : ∀ i o j, ops[i]? = some o → L i = true → waits o j = true → L j = true

structure Set (P : Program) (tab : List (Nat × List Value × Value × Kind)) (sts : List Nat) (ops : Array Oper) (a0 : Act) (S : Nat → World → Prop) : Prop where
  F : formed ops a0.tmps.size = true
  ok : AllDo P S ops tab
  pl : (plan P (fun _ => 0) (plain tab) ops a0 (fun _ => 0) ops.size).isSome = true
  cs : (planD P (fun _ => 0) (plain tab) ops a0 (fun _ => 0) ops.size).2.map (·.1) = (planD P (fun _ => 0) (plain tab) ops a0 (fun _ => 0) ops.size).2.map (·.2)
  ty : tidyS tab sts ops = true

section
variable {P : Program} {tab : List (Nat × List Value × Value × Kind)} {sts : List Nat} {ops : Array Oper} {a0 : Act} {S : Nat → World → Prop} {L : Nat → Bool} {a : Act} {w : World}

theorem stage_other {i : Nat} (h : ∀ s ∈ sts, s ≠ i) : stage sts (fun j => j == i || L j) = stage sts L := by
  unfold stage
  congr 1
  induction sts with
  | nil => rfl
  | cons s r ih =>
    have h1 : (s == i || L s) = L s := by simp [h s (List.mem_cons_self ..)]
    rw [List.takeWhile_cons, List.takeWhile_cons, h1, ih (fun t ht => h t (List.mem_cons_of_mem _ ht))]
theorem stage_zero (h : ∀ s ∈ sts, L s = false) : stage sts L = 0 := by
  unfold stage
  cases sts with
  | nil => rfl
  | cons s r => rw [List.takeWhile_cons, h s (List.mem_cons_self ..)]; rfl
theorem stage_all (h : ∀ s ∈ sts, L s = true) : stage sts L = sts.length := by
  unfold stage
  induction sts with
  | nil => rfl
  | cons s r ih =>
    rw [List.takeWhile_cons, if_pos (h s (List.mem_cons_self ..)), List.length_cons, ih (fun t ht => h t (List.mem_cons_of_mem _ ht)), List.length_cons]
theorem chain_at : ∀ {sts : List Nat}, chain ops sts = true → ∀ {k s t}, sts[k]? = some s → sts[k + 1]? = some t → waitsAt ops t s = true ∧ s < t
  | [], _, k, s, t, h, _ => by simp at h
  | [x], _, k, s, t, _, h => by simp at h
  | x :: y :: r, hc, k, s, t, h1, h2 => by
    unfold chain at hc
    simp only [Bool.and_eq_true] at hc
    cases k with
    | zero =>
      simp at h1 h2
      subst h1
      subst h2
      exact ⟨hc.1.1, by simpa using hc.1.2⟩
    | succ k =>
      simp only [List.getElem?_cons_succ] at h1 h2
      exact chain_at hc.2 h1 (by simpa using h2)
theorem waitsAt_spec {s i : Nat} (h : waitsAt ops s i = true) : ∃ o, ops[s]? = some o ∧ waits o i = true := by
  unfold waitsAt at h
  split at h
  · rename_i o ho
    exact ⟨o, ho, h⟩
  · cases h
theorem chain_lt (hc : chain ops sts = true) : ∀ n k s t, sts[k]? = some s → sts[k + 1 + n]? = some t → s < t
  | 0, k, s, t, h1, h2 => (chain_at hc h1 h2).2
  | n + 1, k, s, t, h1, h2 => by
    obtain ⟨hl, rfl⟩ := List.getElem?_eq_some_iff.1 h2
    have h3 : sts[k + 1 + n]? = some sts[k + 1 + n] := List.getElem?_eq_getElem (by omega)
    have h4 := chain_lt hc n k s _ h1 h3
    have h5 := (chain_at hc h3 h2).2
    omega
theorem tidy_at (h : tidyS tab sts ops = true) {i : Nat} (hi : i < ops.size) {x : List Value × Value × Kind} (hx : find tab i = some x) :
    match x.2.2 with
    | .read => ∀ s ∈ sts, waitsAt ops s i = true
    | .call _ _ => ∀ s ∈ sts, waitsAt ops s i = true
    | .put k => sts[k]? = some i
    | .pure => True := by
  unfold tidyS at h
  simp only [Bool.and_eq_true, List.all_eq_true] at h
  have h1 := h.2 i (List.mem_range.2 hi)
  obtain ⟨xs, v, k⟩ := x
  rw [hx] at h1
  cases k with
  | pure => trivial
  | read => simpa using h1
  | call f args => simpa using h1
  | put k =>
    simp only at h1 ⊢
    split at h1
    · rename_i s hs
      rw [hs]
      have : s = i := by simpa using h1
      rw [this]
    · cases h1
theorem tidy_sts (h : tidyS tab sts ops = true) : chain ops sts = true ∧ ∀ s ∈ sts, s < ops.size ∧ ∃ xs v k, find tab s = some (xs, v, .put k) := by
  unfold tidyS at h
  simp only [Bool.and_eq_true, List.all_eq_true] at h
  refine ⟨h.1.1, fun s hs => ?_⟩
  obtain ⟨h1, this⟩ := h.1.2 s hs
  refine ⟨by simpa using h1, ?_⟩
  split at this
  · rename_i xs v k hk
    exact ⟨xs, v, k, hk⟩
  · cases this
/-- At the store number k just k stores have come up. -/
theorem stage_put (hc : chain ops sts = true) (hcl : ∀ i o j, ops[i]? = some o → L i = true → waits o j = true → L j = true) {i k : Nat} {o : Oper} (hk : sts[k]? = some i) (hi : ops[i]? = some o) (hL : L i = false) (hdep : ∀ j, waits o j = true → L j = true) :
    stage sts L = k ∧ stage sts (fun j => j == i || L j) = k + 1 := by
  obtain ⟨hlt, hke⟩ := List.getElem?_eq_some_iff.1 hk
  have hbef : ∀ n j s, j + 1 + n = k → sts[j]? = some s → L s = true := by
    intro n
    induction n with
    | zero =>
      intro j s hj hs
      obtain ⟨o', ho', hw⟩ := waitsAt_spec (chain_at hc hs (by rw [show j + 1 = k by omega]; exact hk)).1
      rw [hi] at ho'
      cases ho'
      exact hdep s hw
    | succ n ih =>
      intro j s hj hs
      have h1 : sts[j + 1]? = some sts[j + 1] := List.getElem?_eq_getElem (by omega)
      have h2 := ih (j + 1) _ (by omega) h1
      obtain ⟨o', ho', hw⟩ := waitsAt_spec (chain_at hc hs h1).1
      exact hcl _ _ _ ho' h2 hw
  have e : sts = sts.take k ++ i :: sts.drop (k + 1) := by
    have := List.take_append_drop k sts
    rw [List.drop_eq_getElem_cons hlt, hke] at this
    exact this.symm
  have hpre : ∀ s ∈ sts.take k, L s = true := fun s hs => by
    obtain ⟨j, hj, rfl⟩ := List.mem_iff_getElem.1 hs
    rw [List.length_take] at hj
    rw [List.getElem_take]
    exact hbef (k - (j + 1)) j _ (by omega) (List.getElem?_eq_getElem (by omega))
  have hpl : (sts.take k).length = k := by rw [List.length_take]; omega
  have tw : ∀ (M : Nat → Bool), (∀ s ∈ sts.take k, M s = true) → sts.takeWhile M = sts.take k ++ (i :: sts.drop (k + 1)).takeWhile M := fun M hM => by
    conv => lhs; rw [e]
    rw [List.takeWhile_append_of_pos hM]
  refine ⟨?_, ?_⟩
  · unfold stage
    rw [tw L hpre, List.takeWhile_cons, hL]
    simp [hpl]
  · unfold stage
    rw [tw _ (fun s hs => by simp [hpre s hs]), List.takeWhile_cons]
    simp only [beq_self_eq_true, Bool.true_or, if_true, List.length_append, List.length_cons, hpl]
    have : (sts.drop (k + 1)).takeWhile (fun j => j == i || L j) = [] := by
      by_cases h1 : k + 1 < sts.length
      · rw [List.drop_eq_getElem_cons h1, List.takeWhile_cons]
        have h2 := chain_at hc hk (List.getElem?_eq_getElem h1)
        have h3 : L sts[k + 1] = false := by
          cases hq : L sts[k + 1] with
          | false => rfl
          | true =>
            obtain ⟨o', ho', hw⟩ := waitsAt_spec h2.1
            rw [hcl _ _ _ ho' hq hw] at hL
            cases hL
        have h4 : (sts[k + 1] == i) = false := by simp; omega
        rw [h3, h4]
        rfl
      · rw [List.drop_eq_nil_of_le (by omega)]
        rfl
    rw [this]
    simp

theorem same_eval (G : Set P tab sts ops a0 S) (h : Inv P tab sts ops a0 S L a w) {i : Nat} {o : Oper} (hi : ops[i]? = some o) (hdep : ∀ j, waits o j = true → L j = true) {d : Tmp} (hd : d ∈ o.looksAt ops) :
    a.eval (.tmp d) = (planD P (fun _ => 0) (plain tab) ops a0 (fun _ => 0) i).1.eval (.tmp d) := by
  have hlt : i < ops.size := (Array.getElem?_eq_some_iff.1 hi).1
  have hw := (formed_op G.F hi).2 d hd
  rw [h.t d (fun j hj => hdep j (hw j hj).2), plan_eval G.pl (ops.size - i) i (by omega) (fun j hj => (hw j hj).1)]
theorem same_op (G : Set P tab sts ops a0 S) (h : Inv P tab sts ops a0 S L a w) {i : Nat} {o : Oper} (hi : ops[i]? = some o) (hdep : ∀ j, waits o j = true → L j = true) :
    execOp a.eval o = execOp (planD P (fun _ => 0) (plain tab) ops a0 (fun _ => 0) i).1.eval o :=
  execOp_congr o (fun cs b => Region.noSelect_spec (formed_sel G.F).2 i o cs b hi) fun x hx => by
    cases x with
    | tmp d => exact same_eval G h hi hdep (List.mem_append_left _ (List.mem_filterMap.2 ⟨.tmp d, by simpa using hx, rfl⟩))
    | _ => rfl
theorem same_wanted (G : Set P tab sts ops a0 S) (h : Inv P tab sts ops a0 S L a w) {i : Nat} {o : Oper} (hi : ops[i]? = some o) (hdep : ∀ j, waits o j = true → L j = true) :
    Region.wanted o (yielded ops a.tmps) = Region.wanted o (yielded ops (planD P (fun _ => 0) (plain tab) ops a0 (fun _ => 0) i).1.tmps) := by
  have hlt : i < ops.size := (Array.getElem?_eq_some_iff.1 hi).1
  unfold Region.wanted
  cases hg : o.guard with
  | none => rfl
  | some gw =>
    obtain ⟨g, want⟩ := gw
    have hy : yielded ops a.tmps g = yielded ops (planD P (fun _ => 0) (plain tab) ops a0 (fun _ => 0) i).1.tmps g := by
      unfold yielded
      cases ht : (ops[g]?).bind (·.dst) with
      | none => rfl
      | some t =>
        have h1 := same_eval G h hi hdep (d := t) (List.mem_append_right _ (by simp [hg, ht]))
        have hz : a.tmps.size = (planD P (fun _ => 0) (plain tab) ops a0 (fun _ => 0) i).1.tmps.size := by rw [h.z, plan_size G.pl i (by omega)]
        simp only [Option.bind_some]
        unfold Act.eval at h1
        simp only [Array.getD_eq_getD_getElem?] at h1
        by_cases hlt2 : t < a.tmps.size
        · rw [Array.getElem?_eq_getElem hlt2, Array.getElem?_eq_getElem (Nat.lt_of_lt_of_eq hlt2 hz)] at h1 ⊢
          simp only [Option.getD_some] at h1
          rw [h1]
        · rw [Array.getElem?_eq_none (Nat.not_lt.1 hlt2), Array.getElem?_eq_none (Nat.le_trans (Nat.le_of_eq hz.symm) (Nat.not_lt.1 hlt2))]
    simp only [hy]

theorem Inv.on (G : Set P tab sts ops a0 S) (h : Inv P tab sts ops a0 S L a w) {i : Nat} {o : Oper} (hi : ops[i]? = some o) (hdep : ∀ j, waits o j = true → L j = true) {v : Value} (hv : (planD P (fun _ => 0) (plain tab) ops a0 (fun _ => 0) (i + 1)).1 = (planD P (fun _ => 0) (plain tab) ops a0 (fun _ => 0) i).1.put o.dst v)
    {w' : World} (hs : S (stage sts (fun j => j == i || L j)) w') : Inv P tab sts ops a0 S (fun j => j == i || L j) (a.put o.dst v) w' where
  d := by rw [← h.d]; cases o.dst <;> rfl
  z := by rw [size_put]; exact h.z
  t := fun d hd => by
    by_cases e : o.dst = some d
    · rw [fin_dst G.F G.pl hi hv e, e, eval_put_eq]
      rw [h.z]
      exact ((formed_op G.F hi).1 d e).1
    · rw [eval_put_ne e]
      refine h.t d fun j hj => ?_
      have := hd j hj
      rwa [lor_ne] at this
      rintro rfl
      obtain ⟨o', ho, hod⟩ := mem_writers.1 hj
      rw [hi] at ho
      cases ho
      exact e hod
  s := hs
  cl := fun j o' k hj hl hk => by
    by_cases e : j = i
    · subst e
      rw [hi] at hj
      cases hj
      exact lor_of (hdep k hk)
    · exact lor_of (h.cl j o' k hj (by simpa [e] using hl) hk)

theorem Inv.next (G : Set P tab sts ops a0 S) {Q : Exit → Act → World → Prop} {i : Nat} {o : Oper} (hi : ops[i]? = some o) (hL : L i = false) (hdep : ∀ j, waits o j = true → L j = true) (h : Inv P tab sts ops a0 S L a w) :
    if Region.wanted o (yielded ops a.tmps) = true then o.wp P a w (fun a' w' => Inv P tab sts ops a0 S (fun j => j == i || L j) a' w') Q else Inv P tab sts ops a0 S (fun j => j == i || L j) (a.put o.dst undef) w := by
  have hlt : i < ops.size := (Array.getElem?_eq_some_iff.1 hi).1
  obtain ⟨v, hv, hmore, hcase⟩ := plan_step G.pl hi
  obtain ⟨hch, hsts⟩ := tidy_sts G.ty
  have nosts : (∀ xs v k, find tab i ≠ some (xs, v, .put k)) → ∀ s ∈ sts, s ≠ i := fun hn s hs e => by
    obtain ⟨_, xs, v, k, hk⟩ := hsts s hs
    rw [e] at hk
    exact hn _ _ _ hk
  have calm : (∀ xs v k, find tab i ≠ some (xs, v, .put k)) → ∀ w', S (stage sts L) w' → S (stage sts (fun j => j == i || L j)) w' := fun hn w' hs => by
    rw [stage_other (nosts hn)]
    exact hs
  have zero : (∀ s ∈ sts, waitsAt ops s i = true) → stage sts L = 0 := fun hw => stage_zero fun s hs => by
    obtain ⟨o', ho', h1⟩ := waitsAt_spec (hw s hs)
    cases hq : L s with
    | false => rfl
    | true =>
      rw [h.cl s o' i ho' hq h1] at hL
      cases hL
  rw [same_wanted G h hi hdep]
  rcases hcase with ⟨hw, cs, hr, hcs⟩ | ⟨hw, hl, rfl⟩
  · rw [if_pos hw]
    have hc : ∀ c ∈ cs, c.1 = c.2 := fun c hc => Takes.all_eq G.cs c (plan_more G.pl (ops.size - (i + 1)) (i + 1) (by omega) c (hcs c hc))
    unfold Oper.wp
    rw [same_op G h hi hdep]
    generalize hα : (planD P (fun _ => 0) (plain tab) ops a0 (fun _ => 0) i).1 = α at hr
    have hv2 : ∀ v', v = v' → (planD P (fun _ => 0) (plain tab) ops a0 (fun _ => 0) (i + 1)).1 = (planD P (fun _ => 0) (plain tab) ops a0 (fun _ => 0) i).1.put o.dst v' := fun v' e => by rw [← e]; exact hv
    unfold res at hr
    rw [look_plain] at hr
    cases hf : find tab i with
    | none =>
      rw [hf] at hr
      simp only [Option.map_none] at hr
      obtain ⟨v', hv', he⟩ := Option.map_eq_some_iff.1 hr
      cases he
      rw [Takes.val_ok hv' w]
      exact h.on G hi hdep (hv2 _ rfl) (calm (fun _ _ _ e => by rw [hf] at e; cases e) _ h.s)
    | some x =>
      obtain ⟨xs, v', k⟩ := x
      rw [hf] at hr
      simp only [Option.map_some] at hr
      cases hr
      have hx := agg_inj (hc (.agg (o.op.operands.toList.map α.eval).toArray, .agg xs.toArray) (List.mem_singleton.2 rfl))
      have hx2 : o.op.operands.toList.map α.eval = xs := List.toArray_inj hx
      have hdo := G.ok.get hf
      have hti := tidy_at G.ty hlt hf
      cases k with
      | pure =>
        rw [hdo o hi α.eval hx2 w]
        exact h.on G hi hdep (hv2 _ rfl) (calm (fun _ _ _ e => by rw [hf] at e; cases e) _ h.s)
      | read =>
        have hz := zero hti
        rw [hdo o hi α.eval hx2 w (by rw [← hz]; exact h.s)]
        exact h.on G hi hdep (hv2 _ rfl) (calm (fun _ _ _ e => by rw [hf] at e; cases e) _ h.s)
      | call f args =>
        have hz := zero hti
        obtain ⟨h1, h2⟩ := hdo o hi α.eval hx2 w (by rw [← hz]; exact h.s)
        rw [h1]
        simp only [Oper.upon]
        refine h2.mono fun e w' he => ?_
        obtain ⟨rfl, hs⟩ := he
        exact h.on G hi hdep (hv2 _ rfl) (calm (fun _ _ _ e => by rw [hf] at e; cases e) _ (by rw [hz]; exact hs))
      | put k =>
        obtain ⟨rfl, hd⟩ := hdo
        obtain ⟨e1, e2⟩ := stage_put hch h.cl hti hi hL hdep
        obtain ⟨w', h1, h2⟩ := hd o hi α.eval hx2 w (by rw [← e1]; exact h.s)
        rw [h1]
        exact h.on G hi hdep (hv2 _ rfl) (by rw [e2]; exact h2)
  · rw [hw, if_neg (by simp)]
    rw [look_plain] at hl
    exact h.on G hi hdep hv (calm (fun _ _ _ e => by rw [e] at hl; cases hl) _ h.s)

/-- The region, once for all orders. -/
theorem region_puts {id : Nat} {Q : Exit → Act → World → Prop} (hm : P.follows .mixedOrders = true) (G : Set P tab sts ops a0 S) (h0 : S 0 w.drew) (vs : List (Tmp × Value)) (hvs : trace ops (fin P (fun _ => 0) (plain tab) ops a0 (fun _ => 0)) ops.size = vs)
    (hend : ∀ w', S sts.length w' → Q .normal (puts a0 vs) w') : (Code.region id ops true).wp P Q a0 w := by
  refine Takes.wp_region_inv hm (fun L a w' => Inv P tab sts ops a0 S L a w') ?_ ?_ ?_ (formed_sel G.F).1
  · refine ⟨rfl, rfl, fun d hd => ?_, ?_, fun i o j _ h => (by cases h)⟩
    · have hno : ∀ j ∈ writers ops d, j < 0 := fun j hj => by cases hd j hj
      rw [← plan_eval G.pl ops.size 0 (by omega) hno]
      rfl
    · rw [stage_zero fun _ _ => rfl]
      exact h0
  · rintro L a w' i o hi hL hdep hI
    exact Inv.next G (Q := Q) hi hL (fun j hj => by obtain ⟨e, he, hb, rfl⟩ := waits_spec hj; exact hdep e he hb) hI
  · rintro L a w' hall h
    have hs := h.s
    rw [stage_all fun s hs => hall s ((tidy_sts G.ty).2 s hs).1] at hs
    have hq := hend w' hs
    rw [← hvs, ← fin_puts G.F G.pl ops.size (Nat.le_refl _)] at hq
    have ez : a.tmps.size = (fin P (fun _ => 0) (plain tab) ops a0 (fun _ => 0)).tmps.size := by rw [h.z]; exact (plan_size G.pl ops.size (Nat.le_refl _)).symm
    have et : a.tmps = (fin P (fun _ => 0) (plain tab) ops a0 (fun _ => 0)).tmps := by
      refine Array.ext ez fun d h1 h2 => ?_
      have h3 := h.t d (fun j hj => by obtain ⟨o, ho, _⟩ := mem_writers.1 hj; exact hall j (Array.getElem?_eq_some_iff.1 ho).1)
      unfold Act.eval at h3
      simp only [Array.getD_eq_getD_getElem?] at h3
      rwa [Array.getElem?_eq_getElem h1, Array.getElem?_eq_getElem h2] at h3
    have ed : a.defers = (fin P (fun _ => 0) (plain tab) ops a0 (fun _ => 0)).defers := by rw [h.d]; exact (plan_defers G.pl ops.size (Nat.le_refl _)).symm
    have : a = fin P (fun _ => 0) (plain tab) ops a0 (fun _ => 0) := by
      cases a
      generalize fin P (fun _ => 0) (plain tab) ops a0 (fun _ => 0) = b at et ed
      cases b
      simp only at et ed
      rw [et, ed]
    rw [this]
    exact hq
end
end Go.FreeS
