/- A region that draws its order, once for all orders, with answers known by properties: the proof. No condition on the program. -/
import Derived.Test.YtjlifkhpohfiaaaFreeX
namespace Go.FreeX
open Go Go.RowKit Go.Free

section
variable (P : Program) (om : Nat → Nat) (tab : List (Nat × Ent)) (ops : Array Oper) (a0 : Act) (S : World → Prop) (B0 : Nat) (w0 : World) (olds : List (Nat × List Value)) (far : Value → Nat → Prop)

structure Inv (β : Nat → Nat × Value) (L : Nat → Bool) (a : Act) (w : World) : Prop where
  d : a.defers = a0.defers
  z : a.tmps.size = a0.tmps.size
  t : ∀ d, (∀ j ∈ writers ops d, L j = true) → a.eval (.tmp d) = (fin P om tab ops a0 β).eval (.tmp d)
  s : S w
  hz : w0.heap.size ≤ w.heap.size
  b : Below B0 w0 w
  nw : ∀ i zs, newOf (look tab i) = some zs → L i = true → w0.heap.size ≤ (β i).1 ∧ (β i).1 < w.heap.size ∧ Holds (β i).1 (cur tab L (.own i) zs) w
  ne : ∀ i j zi zj, newOf (look tab i) = some zi → newOf (look tab j) = some zj → L i = true → L j = true → i ≠ j → (β i).1 ≠ (β j).1
  ol : ∀ p zs, (p, zs) ∈ olds → Holds (om p) (cur tab L (.old p) zs) w
  rl : ∀ i Φ, relOf (look tab i) = some Φ → L i = true → Φ (β i).2 w
  ap : ∀ k Φ j zs, relOf (look tab k) = some Φ → newOf (look tab j) = some zs → L k = true → L j = true → far (β k).2 (β j).1
  cl : ∀ i o j, ops[i]? = some o → L i = true → waits o j = true → L j = true
end

section
variable {P : Program} {om : Nat → Nat} {tab : List (Nat × Ent)} {ops : Array Oper} {a0 : Act} {S : World → Prop} {B0 : Nat} {w0 : World} {olds : List (Nat × List Value)} {far : Value → Nat → Prop} {β : Nat → Nat × Value} {L : Nat → Bool} {a : Act} {w : World}

/-- What is given ahead, of what comes up. -/
structure Set (P : Program) (om : Nat → Nat) (tab : List (Nat × Ent)) (ops : Array Oper) (a0 : Act) (S : World → Prop) (B0 : Nat) (w0 : World) (olds : List (Nat × List Value)) (far : Value → Nat → Prop) (β : Nat → Nat × Value) : Prop where
  F : formed ops a0.tmps.size = true
  ok : AllOk P S far w0.heap.size tab β ops tab
  pl : (plan P om tab ops a0 β ops.size).isSome = true
  cs : (planD P om tab ops a0 β ops.size).2.map (·.1) = (planD P om tab ops a0 β ops.size).2.map (·.2)
  ty : tidy tab ops olds = true
  S : ∀ w w', S w → Below B0 w w' → S w'
  b0 : B0 ≤ w0.heap.size
  ol : ∀ p zs, (p, zs) ∈ olds → B0 ≤ om p ∧ om p < w0.heap.size
  od : ∀ p q zs zs', (p, zs) ∈ olds → (q, zs') ∈ olds → p ≠ q → om p ≠ om q
  rb : ∀ i Φ, relOf (look tab i) = some Φ → ∀ v w w', Φ v w → Below w.heap.size w w' → Φ v w'
  ro : ∀ i Φ, relOf (look tab i) = some Φ → ∀ v w p zs vs, (p, zs) ∈ olds → Φ v w → Φ v (w.setCells (om p) 0 vs)
  rp : ∀ i t j x vs, look tab i = some (.put t (.own j) x vs) → ∀ k Φ, relOf (look tab k) = some Φ → ∀ v w b zs, Φ v w → far v b → Φ v (w.setCells b 0 zs)
  fa : ∀ i Φ, relOf (look tab i) = some Φ → ∀ v w b, Φ v w → w.heap.size ≤ b → far v b

theorem dep_in (hcl : ∀ i o j, ops[i]? = some o → L i = true → waits o j = true → L j = true) : ∀ n i j, depB ops n i j = true → L i = true → L j = true
  | 0, _, _, h, _ => by cases h
  | n + 1, i, j, h, hL => by
    unfold depB at h
    split at h
    · cases h
    · rename_i o ho
      rw [Bool.or_eq_true] at h
      rcases h with h | h
      · exact hcl i o j ho hL h
      · rw [List.any_eq_true] at h
        obtain ⟨k, _, hk⟩ := h
        rw [Bool.and_eq_true] at hk
        exact dep_in hcl n k j hk.2 (hcl i o k ho hL hk.1)
theorem dep_of (hcl : ∀ i o j, ops[i]? = some o → L i = true → waits o j = true → L j = true) {i : Nat} {o : Oper} (hi : ops[i]? = some o) (hdep : ∀ j, waits o j = true → L j = true) : ∀ n j, depB ops n i j = true → L j = true
  | 0, _, h => by cases h
  | n + 1, j, h => by
    unfold depB at h
    rw [hi] at h
    simp only [Bool.or_eq_true] at h
    rcases h with h | h
    · exact hdep j h
    · rw [List.any_eq_true] at h
      obtain ⟨k, _, hk⟩ := h
      rw [Bool.and_eq_true] at hk
      exact dep_in hcl n k j hk.2 (hdep k hk.1)
theorem plan_start (h : (plan P om tab ops a0 β ops.size).isSome = true) {d : Tmp} {i : Nat} (hi : i ≤ ops.size) (hw : ∀ j, j ∉ writers ops d) : (planD P om tab ops a0 β i).1.eval (.tmp d) = a0.eval (.tmp d) := by
  rw [plan_eval h (ops.size - i) i (by omega) (fun j hj => absurd hj (hw j)), ← plan_eval h ops.size 0 (by omega) (fun j hj => absurd hj (hw j))]
  rfl
theorem wanted_congr {a b : Act} {o : Oper} (hz : a.tmps.size = b.tmps.size) (h : ∀ d ∈ o.looksAt ops, a.eval (.tmp d) = b.eval (.tmp d)) : Region.wanted o (yielded ops a.tmps) = Region.wanted o (yielded ops b.tmps) := by
  unfold Region.wanted
  cases hg : o.guard with
  | none => rfl
  | some gw =>
    obtain ⟨g, want⟩ := gw
    have hy : yielded ops a.tmps g = yielded ops b.tmps g := by
      unfold yielded
      cases ht : (ops[g]?).bind (·.dst) with
      | none => rfl
      | some t =>
        have h1 := h t (List.mem_append_right _ (by simp [hg, ht]))
        simp only [Option.bind_some]
        unfold Act.eval at h1
        simp only [Array.getD_eq_getD_getElem?] at h1
        by_cases hlt2 : t < a.tmps.size
        · rw [Array.getElem?_eq_getElem hlt2, Array.getElem?_eq_getElem (Nat.lt_of_lt_of_eq hlt2 hz)] at h1 ⊢
          simp only [Option.getD_some] at h1
          rw [h1]
        · rw [Array.getElem?_eq_none (Nat.not_lt.1 hlt2), Array.getElem?_eq_none (Nat.le_trans (Nat.le_of_eq hz.symm) (Nat.not_lt.1 hlt2))]
    simp only [hy]
theorem op_congr {a b : Act} {o : Oper} {i : Nat} (hF : formed ops a0.tmps.size = true) (hi : ops[i]? = some o) (h : ∀ d ∈ o.looksAt ops, a.eval (.tmp d) = b.eval (.tmp d)) : execOp a.eval o = execOp b.eval o :=
  execOp_congr o (fun cs b => Region.noSelect_spec (formed_sel hF).2 i o cs b hi) fun x hx => by
    cases x with
    | tmp d => exact h d (List.mem_append_left _ (List.mem_filterMap.2 ⟨.tmp d, by simpa using hx, rfl⟩))
    | _ => rfl
theorem res_same (w0 : World) {tab tab' : List (Nat × Ent)} {β β' : Nat → Nat × Value} {a b : Act} {i : Nat} {o : Oper} {v v' : Value} {cs cs' : List (Value × Value)} (hr : res P om tab β a.eval i o = some (v, cs)) (hr' : res P om tab' β' b.eval i o = some (v', cs')) (hl : look tab' i = look tab i) (hb : β' i = β i) (hx : execOp a.eval o = execOp b.eval o) : v = v' := by
  unfold res at hr hr'
  rw [hl] at hr'
  cases he : look tab i with
  | none =>
    rw [he] at hr hr'
    simp only at hr hr'
    obtain ⟨x, h1, h2⟩ := Option.map_eq_some_iff.1 hr
    obtain ⟨x', h3, h4⟩ := Option.map_eq_some_iff.1 hr'
    cases h2
    cases h4
    have g1 := Go.Takes.val_ok h1 w0
    have g2 := Go.Takes.val_ok h3 w0
    rw [hx, g2] at g1
    cases g1
    rfl
  | some e =>
    rw [he] at hr hr'
    rw [hb] at hr'
    cases e <;> simp only at hr hr' <;> (repeat' split at hr) <;> (repeat' split at hr') <;> first | (cases hr; done) | (cases hr'; done) | (cases hr; cases hr'; rfl)

/-- What is done does not hang on what is not. -/
theorem agree {tabs : (Nat → Nat × Value) → List (Nat × Ent)} {β β' : Nat → Nat × Value} (G : Set P om (tabs β) ops a0 S B0 w0 olds far β) (G' : Set P om (tabs β') ops a0 S B0 w0 olds far β')
    (hcl : ∀ i o j, ops[i]? = some o → L i = true → waits o j = true → L j = true) (hloc : ∀ j, L j = true → look (tabs β') j = look (tabs β) j ∧ β' j = β j) :
    ∀ n j, j < n → L j = true → ∀ o d, ops[j]? = some o → o.dst = some d → (fin P om (tabs β) ops a0 β).eval (.tmp d) = (fin P om (tabs β') ops a0 β').eval (.tmp d)
  | 0, j, h, _, _, _, _, _ => by omega
  | n + 1, j, hn, hL, o, d, ho, hd => by
    have hlt : j < ops.size := (Array.getElem?_eq_some_iff.1 ho).1
    have ih := agree G G' hcl hloc n
    have hop : ∀ d' ∈ o.looksAt ops, (planD P om (tabs β) ops a0 β j).1.eval (.tmp d') = (planD P om (tabs β') ops a0 β' j).1.eval (.tmp d') := fun d' hd' => by
      have hw := (formed_op G.F ho).2 d' hd'
      by_cases he : ∃ k, k ∈ writers ops d'
      · obtain ⟨k, hk⟩ := he
        obtain ⟨o', ho', hod⟩ := mem_writers.1 hk
        rw [plan_eval G.pl (ops.size - j) j (by omega) (fun k hk => (hw k hk).1), plan_eval G'.pl (ops.size - j) j (by omega) (fun k hk => (hw k hk).1)]
        exact ih k (by have := (hw k hk).1; omega) (hcl j o k ho hL (hw k hk).2) o' d' ho' hod
      · have hno : ∀ k, k ∉ writers ops d' := fun k hk => he ⟨k, hk⟩
        rw [plan_start G.pl (by omega) hno, plan_start G'.pl (by omega) hno]
    obtain ⟨v, h1, _, h3⟩ := plan_step G.pl ho
    obtain ⟨v', h1', _, h3'⟩ := plan_step G'.pl ho
    rw [fin_dst G.F G.pl ho h1 hd, fin_dst G'.F G'.pl ho h1' hd]
    have hwt := wanted_congr (by rw [plan_size G.pl j (by omega), plan_size G'.pl j (by omega)]) hop
    obtain ⟨hl, hb⟩ := hloc j hL
    rcases h3 with ⟨g1, cs, g2, _⟩ | ⟨g1, _, g2⟩
    · rcases h3' with ⟨g1', cs', g2', _⟩ | ⟨g1', _, _⟩
      · exact res_same w0 g2 g2' hl hb (op_congr G.F ho hop)
      · rw [hwt, g1'] at g1; cases g1
    · rcases h3' with ⟨g1', cs', g2', _⟩ | ⟨g1', _, g2'⟩
      · rw [hwt, g1'] at g1; cases g1
      · rw [g2, g2']

def upd (β : Nat → Nat × Value) (i : Nat) (n : Nat × Value) : Nat → Nat × Value := fun j => if j = i then n else β j
theorem cur_loc {tab tab' : List (Nat × Ent)} (hp : ∀ g, putsOf tab' g = putsOf tab g) (hl : ∀ j, L j = true → look tab' j = look tab j) (g : Tgt) (zs : List Value) : cur tab' L g zs = cur tab L g zs := by
  unfold cur
  rw [hp]
  split
  · rename_i k hk
    split
    · rename_i hL
      unfold into
      rw [hl k hL]
    · rfl
  · rfl

/-- The table as a function of what comes up. -/
structure SetX (P : Program) (om : Nat → Nat) (tabs : (Nat → Nat × Value) → List (Nat × Ent)) (ops : Array Oper) (a0 : Act) (S : World → Prop) (B0 : Nat) (w0 : World) (olds : List (Nat × List Value)) (far : Value → Nat → Prop) : Prop where
  G : ∀ β, Set P om (tabs β) ops a0 S B0 w0 olds far β
  loc : ∀ β i n j, depB ops ops.size j i = false → look (tabs (upd β i n)) j = look (tabs β) j
  pso : ∀ β β' g, putsOf (tabs β) g = putsOf (tabs β') g

theorem Inv.turn {tabs : (Nat → Nat × Value) → List (Nat × Ent)} (G : SetX P om tabs ops a0 S B0 w0 olds far) (h : Inv P om (tabs β) ops a0 S B0 w0 olds far β L a w) {i : Nat} (hi : L i = false) (n : Nat × Value) : Inv P om (tabs (upd β i n)) ops a0 S B0 w0 olds far (upd β i n) L a w := by
  have off : ∀ j, L j = true → upd β i n j = β j := fun j hj => by
    unfold upd
    rw [if_neg]
    rintro rfl
    rw [hi] at hj
    cases hj
  have hl : ∀ j, L j = true → look (tabs (upd β i n)) j = look (tabs β) j := fun j hj => by
    refine G.loc β i n j ?_
    rw [Bool.eq_false_iff]
    intro hd
    have := dep_in h.cl _ _ _ hd hj
    rw [hi] at this
    cases this
  have hc := cur_loc (L := L) (G.pso (upd β i n) β) hl
  refine ⟨h.d, h.z, fun d hd => ?_, h.s, h.hz, h.b, fun j zs hj hL => ?_, fun j k zi zj hj hk lj lk hne => ?_, fun p zs hp => by rw [hc]; exact h.ol p zs hp, fun j Φ hj hL => ?_, fun k Φ j zs hk hj lk lj => ?_, h.cl⟩
  · rw [h.t d hd]
    by_cases hw : ∃ j, j ∈ writers ops d
    · obtain ⟨j, hj⟩ := hw
      obtain ⟨o, ho, hod⟩ := mem_writers.1 hj
      exact agree (G.G β) (G.G (upd β i n)) h.cl (fun j hj => ⟨hl j hj, off j hj⟩) (j + 1) j (by omega) (hd j hj) o d ho hod
    · have hno : ∀ j, j ∉ writers ops d := fun j hj => hw ⟨j, hj⟩
      have e1 := plan_start (i := ops.size) (G.G β).pl (Nat.le_refl _) hno
      have e2 := plan_start (i := ops.size) (G.G (upd β i n)).pl (Nat.le_refl _) hno
      unfold fin
      rw [e1, e2]
  · rw [off j hL, hc]
    rw [hl j hL] at hj
    exact h.nw j zs hj hL
  · rw [off j lj, off k lk]
    rw [hl j lj] at hj
    rw [hl k lk] at hk
    exact h.ne j k zi zj hj hk lj lk hne
  · rw [off j hL]
    rw [hl j hL] at hj
    exact h.rl j Φ hj hL
  · rw [off k lk, off j lj]
    rw [hl k lk] at hk
    rw [hl j lj] at hj
    exact h.ap k Φ j zs hk hj lk lj

theorem lor_ne {i j : Nat} (hn : j ≠ i) : (j == i || L j) = L j := by simp [hn]
theorem lor_of {i j : Nat} (h : L j = true) : (j == i || L j) = true := by simp [h]
theorem cur_same {i : Nat} {g : Tgt} {zs : List Value} (hp : into tab i g = none) : cur tab (fun j => j == i || L j) g zs = cur tab L g zs := by
  unfold cur
  split
  · rename_i k hk
    by_cases e : k = i
    · subst e
      rw [hp]
      simp
    · simp only [lor_ne e]
  · rfl
theorem cur_put {i : Nat} {t : TypeId} {g : Tgt} {x : Value} {vs zs : List Value} (hl : look tab i = some (.put t g x vs)) (hp : putsOf tab g = some i) : cur tab (fun j => j == i || L j) g zs = vs := by
  unfold cur
  rw [hp]
  have : into tab i g = some vs := by
    unfold into
    rw [hl]
    simp [Tgt.same_iff.2 rfl]
  simp [this]
theorem cur_len {g : Tgt} {zs : List Value} (hz : ∀ i t x vs, look tab i = some (.put t g x vs) → zs.length = vs.length) : (cur tab L g zs).length = zs.length := by
  unfold cur
  split
  · rename_i k hk
    split
    · unfold into
      split
      · rename_i t h x vs hl
        split
        · rename_i hs
          have := Tgt.same_iff.1 hs
          subst this
          exact (hz _ _ _ _ hl).symm
        · rfl
      · rfl
    · rfl
  · rfl

/-- What does not touch the blocks. -/
theorem Inv.quietK (G : Set P om tab ops a0 S B0 w0 olds far β) (h : Inv P om tab ops a0 S B0 w0 olds far β L a w) {i : Nat} {o : Oper} (hi : ops[i]? = some o) (hdep : ∀ j, waits o j = true → L j = true) {v : Value} (hv : (planD P om tab ops a0 β (i + 1)).1 = (planD P om tab ops a0 β i).1.put o.dst v)
    (hnew : newOf (look tab i) = none) (hput : ∀ g, into tab i g = none) {w' : World} (hkp : Below w.heap.size w w' ∨ ((∀ j, L j = true → newOf (look tab j) = none) ∧ w.heap.size ≤ w'.heap.size ∧ Below w0.heap.size w w' ∧ ∀ j Φ, relOf (look tab j) = some Φ → L j = true → j ≠ i → Φ (β j).2 w → Φ (β j).2 w')) (hrel : ∀ Φ, relOf (look tab i) = some Φ → Φ (β i).2 w' ∧ Fresh far w0.heap.size (β i).2 w) :
    Inv P om tab ops a0 S B0 w0 olds far β (fun j => j == i || L j) (a.put o.dst v) w' where
  d := by rw [← h.d]; cases o.dst <;> rfl
  z := by rw [size_put]; exact h.z
  t := fun d hd => by
    by_cases e : o.dst = some d
    · rw [fin_dst G.F G.pl hi hv e, e, eval_put_eq]
      rw [h.z]
      exact ((formed_op G.F hi).1 d e).1
    · rw [eval_put_ne e]
      refine h.t d fun j hj => ?_
      have := hd j hj
      rwa [lor_ne] at this
      rintro rfl
      obtain ⟨o', ho, hod⟩ := mem_writers.1 hj
      rw [hi] at ho
      cases ho
      exact e hod
  s := G.S _ _ h.s ((hkp.elim (fun hb => hb.mono h.hz) (fun x => x.2.2.1)).mono G.b0)
  hz := Nat.le_trans h.hz (hkp.elim (fun hb => hb.size) (fun x => x.2.1))
  b := h.b.trans ((hkp.elim (fun hb => hb.mono h.hz) (fun x => x.2.2.1)).mono G.b0)
  nw := fun j zs hj hl => by
    have e : j ≠ i := by rintro rfl; rw [hnew] at hj; cases hj
    rw [cur_same (hput _)]
    have lj : L j = true := by simpa [e] using hl
    obtain ⟨h1, h2, h3⟩ := h.nw j zs hj lj
    rcases hkp with hb | ⟨hn, _⟩
    · exact ⟨h1, Nat.lt_of_lt_of_le h2 hb.size, h3.below hb h2⟩
    · rw [hn j lj] at hj
      cases hj
  ne := fun j k zi zj hj hk lj lk hne => by
    have e : j ≠ i := by rintro rfl; rw [hnew] at hj; cases hj
    have e' : k ≠ i := by rintro rfl; rw [hnew] at hk; cases hk
    exact h.ne j k zi zj hj hk (by simpa [e] using lj) (by simpa [e'] using lk) hne
  ol := fun p zs hp => by
    rw [cur_same (hput _)]
    exact (h.ol p zs hp).below (hkp.elim (fun hb => hb.mono h.hz) (fun x => x.2.2.1)) (G.ol p zs hp).2
  rl := fun j Φ hj hl => by
    by_cases e : j = i
    · subst e; exact (hrel Φ hj).1
    · have lj : L j = true := by simpa [e] using hl
      rcases hkp with hb | ⟨_, _, _, hs⟩
      · exact G.rb j Φ hj _ _ _ (h.rl j Φ hj lj) hb
      · exact hs j Φ hj lj e (h.rl j Φ hj lj)
  ap := fun k Φ j zs hk hj lk lj => by
    have e : j ≠ i := by rintro rfl; rw [hnew] at hj; cases hj
    have lj2 : L j = true := by simpa [e] using lj
    by_cases e' : k = i
    · subst e'
      obtain ⟨h1, h2, _⟩ := h.nw j zs hj lj2
      exact (hrel Φ hk).2 _ h1 h2
    · exact h.ap k Φ j zs hk hj (by simpa [e'] using lk) lj2
  cl := fun j o' k hj hl hk => by
    by_cases e : j = i
    · subst e
      rw [hi] at hj
      cases hj
      exact lor_of (hdep k hk)
    · exact lor_of (h.cl j o' k hj (by simpa [e] using hl) hk)

theorem Inv.quiet (G : Set P om tab ops a0 S B0 w0 olds far β) (h : Inv P om tab ops a0 S B0 w0 olds far β L a w) {i : Nat} {o : Oper} (hi : ops[i]? = some o) (hdep : ∀ j, waits o j = true → L j = true) {v : Value} (hv : (planD P om tab ops a0 β (i + 1)).1 = (planD P om tab ops a0 β i).1.put o.dst v)
    (hnew : newOf (look tab i) = none) (hput : ∀ g, into tab i g = none) {w' : World} (hb : Below w.heap.size w w') (hrel : ∀ Φ, relOf (look tab i) = some Φ → Φ (β i).2 w' ∧ Fresh far w0.heap.size (β i).2 w) :
    Inv P om tab ops a0 S B0 w0 olds far β (fun j => j == i || L j) (a.put o.dst v) w' := h.quietK G hi hdep hv hnew hput (.inl hb) hrel

theorem Inv.made (G : Set P om tab ops a0 S B0 w0 olds far β) (h : Inv P om tab ops a0 S B0 w0 olds far β L a w) {i : Nat} {o : Oper} (hi : ops[i]? = some o) (hL : L i = false) (hdep : ∀ j, waits o j = true → L j = true) {v : Value} (hv : (planD P om tab ops a0 β (i + 1)).1 = (planD P om tab ops a0 β i).1.put o.dst v)
    {zs : List Value} {e : TypeId} (hnew : newOf (look tab i) = some zs) (hb : (β i).1 = w.heap.size) :
    Inv P om tab ops a0 S B0 w0 olds far β (fun j => j == i || L j) (a.put o.dst v) (w.alloc (.cells zs.toArray e)) where
  d := by rw [← h.d]; cases o.dst <;> rfl
  z := by rw [size_put]; exact h.z
  t := fun d hd => by
    by_cases e : o.dst = some d
    · rw [fin_dst G.F G.pl hi hv e, e, eval_put_eq]
      rw [h.z]
      exact ((formed_op G.F hi).1 d e).1
    · rw [eval_put_ne e]
      refine h.t d fun j hj => ?_
      have := hd j hj
      rwa [lor_ne] at this
      rintro rfl
      obtain ⟨o', ho, hod⟩ := mem_writers.1 hj
      rw [hi] at ho
      cases ho
      exact e hod
  s := G.S _ _ h.s ((Below.refl _ _).alloc (Nat.le_trans G.b0 h.hz) _)
  hz := Nat.le_trans h.hz (by simp)
  b := h.b.alloc (Nat.le_trans G.b0 h.hz) _
  nw := fun j zs' hj hl => by
    have hp : ∀ g, into tab i g = none := fun g => by
      unfold into
      split
      · rename_i hl2
        rw [hl2] at hnew
        cases hnew
      · rfl
    rw [cur_same (hp _)]
    by_cases e : j = i
    · subst e
      rw [hnew] at hj
      cases hj
      rw [hb]
      refine ⟨h.hz, by simp, ?_⟩
      have : cur tab L (.own j) zs = zs := by
        unfold cur
        split
        · rename_i k hk
          split
          · rename_i hLk
            unfold into
            split
            · rename_i t g x vs hl2
              split
              · rename_i hs
                have := Tgt.same_iff.1 hs
                subst this
                obtain ⟨_, h2, _⟩ := tidy_put G.ty hl2
                obtain ⟨zs2, o2, _, ho2, _, hw2⟩ := h2 j rfl
                have := h.cl k o2 j ho2 hLk hw2
                rw [hL] at this
                cases this
              · rfl
            · rfl
          · rfl
        · rfl
      rw [this]
      exact Holds.new
    · obtain ⟨h1, h2, h3⟩ := h.nw j zs' hj (by simpa [e] using hl)
      exact ⟨h1, by simp; omega, h3.below ((Below.refl w.heap.size w).alloc (Nat.le_refl _) _) h2⟩
  ne := fun j k zi zj hj hk lj lk hne => by
    by_cases e : j = i
    · subst e
      have e' : k ≠ j := fun e => hne e.symm
      have := (h.nw k zj hk (by simpa [e'] using lk)).2.1
      omega
    · by_cases e' : k = i
      · subst e'
        have := (h.nw j zi hj (by simpa [e] using lj)).2.1
        omega
      · exact h.ne j k zi zj hj hk (by simpa [e] using lj) (by simpa [e'] using lk) hne
  ol := fun p zs' hp => by
    have hp2 : ∀ g, into tab i g = none := fun g => by
      unfold into
      split
      · rename_i hl2
        rw [hl2] at hnew
        cases hnew
      · rfl
    rw [cur_same (hp2 _)]
    exact (h.ol p zs' hp).below ((Below.refl w.heap.size w).alloc (Nat.le_refl _) _) (by have := (G.ol p zs' hp).2; have := h.hz; omega)
  rl := fun j Φ hj hl => by
    have e : j ≠ i := by
      rintro rfl
      cases hq : look tab j with
      | none => rw [hq] at hnew; cases hnew
      | some x => rw [hq] at hj hnew; cases x <;> first | (cases hj; done) | (cases hnew; done)
    exact G.rb j Φ hj _ _ _ (h.rl j Φ hj (by simpa [e] using hl)) ((Below.refl w.heap.size w).alloc (Nat.le_refl _) _)
  ap := fun k Φ j zs' hk hj lk lj => by
    have e : k ≠ i := by
      rintro rfl
      cases hq : look tab k with
      | none => rw [hq] at hnew; cases hnew
      | some x => rw [hq] at hk hnew; cases x <;> first | (cases hk; done) | (cases hnew; done)
    have lk2 : L k = true := by simpa [e] using lk
    by_cases e' : j = i
    · subst e'
      rw [hb]
      exact G.fa k Φ hk _ _ _ (h.rl k Φ hk lk2) (Nat.le_refl _)
    · exact h.ap k Φ j zs' hk hj lk2 (by simpa [e'] using lj)
  cl := fun j o' k hj hl hk => by
    by_cases e : j = i
    · subst e
      rw [hi] at hj
      cases hj
      exact lor_of (hdep k hk)
    · exact lor_of (h.cl j o' k hj (by simpa [e] using hl) hk)

theorem Inv.stored (G : Set P om tab ops a0 S B0 w0 olds far β) (h : Inv P om tab ops a0 S B0 w0 olds far β L a w) {i : Nat} {o : Oper} (hi : ops[i]? = some o) (hdep : ∀ j, waits o j = true → L j = true) {v : Value} (hv : (planD P om tab ops a0 β (i + 1)).1 = (planD P om tab ops a0 β i).1.put o.dst v)
    {t : TypeId} {g : Tgt} {x : Value} {vs : List Value} (hl : look tab i = some (.put t g x vs)) :
    (∃ zs, zs.length = vs.length ∧ Holds (blk om β g) zs w) ∧ Inv P om tab ops a0 S B0 w0 olds far β (fun j => j == i || L j) (a.put o.dst v) (w.setCells (blk om β g) 0 vs) := by
  obtain ⟨hp, hown, hold⟩ := tidy_put G.ty hl
  have hlen : ∀ zs, (∀ t x vs', look tab i = some (.put t g x vs') → zs.length = vs'.length) → (cur tab L g zs).length = vs.length := fun zs hz => by
    rw [cur_len (fun k t x vs' hk => ?_)]
    · exact hz _ _ _ hl
    · have := (tidy_put G.ty hk).1
      rw [hp] at this
      cases this
      exact hz _ _ _ hk
  have hB : B0 ≤ blk om β g := by
    cases g with
    | own j =>
      obtain ⟨zs, o', h1, h2, _, h3⟩ := hown j rfl
      rw [hi] at h2
      cases h2
      exact Nat.le_trans G.b0 (h.nw j zs h1 (hdep j h3)).1
    | old p =>
      obtain ⟨⟨zs, h1⟩, _⟩ := hold p rfl
      exact (G.ol p zs h1).1
  have hnew : ∀ j zs, newOf (look tab j) = some zs → j ≠ i := fun j zs hj e => by
    subst e
    rw [hl] at hj
    cases hj
  have hin : ∀ g', g ≠ g' → into tab i g' = none := fun g' hg => by
    unfold into
    rw [hl]
    simp only
    rw [if_neg]
    intro e
    exact hg (Tgt.same_iff.1 e).symm
  refine ⟨?_, ?_⟩
  · cases g with
    | own j =>
      obtain ⟨zs, o', h1, h2, h4, h3⟩ := hown j rfl
      rw [hi] at h2
      cases h2
      exact ⟨_, hlen zs (fun t x vs' hk => by rw [hl] at hk; cases hk; exact h4), (h.nw j zs h1 (hdep j h3)).2.2⟩
    | old p =>
      obtain ⟨⟨zs, h1⟩, h2⟩ := hold p rfl
      exact ⟨_, hlen zs (fun t x vs' hk => by rw [hl] at hk; cases hk; exact h2 zs h1), h.ol p zs h1⟩
  exact {
    d := by rw [← h.d]; cases o.dst <;> rfl
    z := by rw [size_put]; exact h.z
    t := fun d hd => by
      by_cases e : o.dst = some d
      · rw [fin_dst G.F G.pl hi hv e, e, eval_put_eq]
        rw [h.z]
        exact ((formed_op G.F hi).1 d e).1
      · rw [eval_put_ne e]
        refine h.t d fun j hj => ?_
        have := hd j hj
        rwa [lor_ne] at this
        rintro rfl
        obtain ⟨o', ho, hod⟩ := mem_writers.1 hj
        rw [hi] at ho
        cases ho
        exact e hod
    s := G.S _ _ h.s (below_setCells hB _ _ _ (Below.refl _ _))
    hz := by rw [size_setCells]; exact h.hz
    b := below_setCells hB _ _ _ h.b
    nw := fun j zs hj hlj => by
      have e := hnew j zs hj
      obtain ⟨h1, h2, h3⟩ := h.nw j zs hj (by simpa [e] using hlj)
      refine ⟨h1, by rw [size_setCells]; exact h2, ?_⟩
      by_cases hg : g = .own j
      · subst hg
        rw [cur_put hl hp]
        obtain ⟨zs', o', g1, g2, g4, g3⟩ := hown j rfl
        rw [hj] at g1
        cases g1
        exact h3.put (hlen zs (fun t x vs' hk => by rw [hl] at hk; cases hk; exact g4))
      · rw [cur_same (hin _ hg)]
        refine h3.other ?_
        cases g with
        | own k =>
          obtain ⟨zs', o', g1, g2, _, g3⟩ := hown k rfl
          rw [hi] at g2
          cases g2
          exact h.ne j k _ _ hj g1 (by simpa [e] using hlj) (hdep k g3) (fun e => hg (by rw [e]))
        | old p =>
          obtain ⟨⟨zs', g1⟩, _⟩ := hold p rfl
          have := (G.ol p zs' g1).2
          show (β j).1 ≠ om p
          omega
    ne := fun j k zi zj hj hk lj lk hne => h.ne j k zi zj hj hk (by simpa [hnew j zi hj] using lj) (by simpa [hnew k zj hk] using lk) hne
    ol := fun q zs hq => by
      by_cases hg : g = .old q
      · subst hg
        rw [cur_put hl hp]
        exact (h.ol q zs hq).put (hlen zs (fun t x vs' hk => by rw [hl] at hk; cases hk; exact (hold q rfl).2 zs hq))
      · rw [cur_same (hin _ hg)]
        refine (h.ol q zs hq).other ?_
        cases g with
        | own k =>
          obtain ⟨zs', o', g1, g2, _, g3⟩ := hown k rfl
          rw [hi] at g2
          cases g2
          have := (h.nw k zs' g1 (hdep k g3)).1
          have := (G.ol q zs hq).2
          show om q ≠ (β k).1
          omega
        | old p =>
          obtain ⟨⟨zs', g1⟩, _⟩ := hold p rfl
          exact G.od q p _ _ hq g1 (fun e => hg (by rw [e]))
    rl := fun j Φ hj hlj => by
      have e : j ≠ i := by rintro rfl; rw [hl] at hj; cases hj
      have hr := h.rl j Φ hj (by simpa [e] using hlj)
      cases g with
      | own k =>
        obtain ⟨zs', o', g1, g2, _, g3⟩ := hown k rfl
        rw [hi] at g2
        cases g2
        exact G.rp i t k x vs hl j Φ hj _ _ _ _ hr (h.ap j Φ k zs' hj g1 (by simpa [e] using hlj) (hdep k g3))
      | old p =>
        obtain ⟨⟨zs, h1⟩, _⟩ := hold p rfl
        exact G.ro j Φ hj _ _ p zs vs h1 hr
    ap := fun k Φ j zs hk hj lk lj => by
      have e : k ≠ i := by rintro rfl; rw [hl] at hk; cases hk
      exact h.ap k Φ j zs hk hj (by simpa [e] using lk) (by simpa [hnew j zs hj] using lj)
    cl := fun j o' k hj hlj hk => by
      by_cases e : j = i
      · subst e
        rw [hi] at hj
        cases hj
        exact lor_of (hdep k hk)
      · exact lor_of (h.cl j o' k hj (by simpa [e] using hlj) hk) }

/-- What an operation does, by its entry. -/
theorem res_run {N0 : Nat} (hok : AllOk P S far N0 tab β ops tab) {α : Act} {i : Nat} {o : Oper} {v : Value} {cs : List (Value × Value)} (hi : ops[i]? = some o) (hr : res P om tab β α.eval i o = some (v, cs)) (hc : ∀ c ∈ cs, c.1 = c.2) :
    (newOf (look tab i) = none ∧ (∀ g, into tab i g = none) ∧ ((relOf (look tab i) = none ∧ ∀ w, S w → Fac tab β ops i w → (execOp α.eval o).run P w = .ok (.value v) w) ∨ ∃ f args, (∀ w, (execOp α.eval o).run P w = .ok (.enter f args) w) ∧ ((relOf (look tab i) = none ∧ ∀ w, S w → Fac tab β ops i w → Calls P f args w fun e w' => e = .returned v ∧ Below w.heap.size w w') ∨ ∃ Φ, relOf (look tab i) = some Φ ∧ v = (β i).2 ∧ ∀ w, S w → Fac tab β ops i w → Calls P f args w fun e w' => ∃ u, e = .returned u ∧ Φ u w' ∧ Below w.heap.size w w' ∧ Fresh far N0 u w))) ∨
    (∃ zs e, newOf (look tab i) = some zs ∧ ∀ w, (β i).1 = w.heap.size → (execOp α.eval o).run P w = .ok (.value v) (w.alloc (.cells zs.toArray e))) ∨
    (∃ t g x vs, look tab i = some (.put t g x vs) ∧ v = undef ∧ ∀ w zs, S w → Fac tab β ops i w → zs.length = vs.length → Holds (blk om β g) zs w → (execOp α.eval o).run P w = .ok .skip (w.setCells (blk om β g) 0 vs)) ∨
    (newOf (look tab i) = none ∧ (∀ g, into tab i g = none) ∧ ∃ xs Φ, look tab i = some (.app xs Φ) ∧ v = (β i).2 ∧ ∀ w, S w → Fac tab β ops i w → ∃ u w', (execOp α.eval o).run P w = .ok (.value u) w' ∧ Φ u w' ∧ Kept N0 tab β ops i w w' ∧ Fresh far N0 u w) := by
  have nin : ∀ {e : Option Ent}, look tab i = e → (∀ t g x vs, e ≠ some (.put t g x vs)) → ∀ g, into tab i g = none := fun {e} he hne g => by
    unfold into
    rw [he]
    split
    · exact absurd rfl (hne _ _ _ _)
    · rfl
  unfold res at hr
  cases hl : look tab i with
  | none =>
    rw [hl] at hr
    simp only at hr
    obtain ⟨v', hv, he⟩ := Option.map_eq_some_iff.1 hr
    cases he
    exact .inl ⟨rfl, nin hl (fun _ _ _ _ h => by cases h), .inl ⟨rfl, fun w _ _ => Takes.val_ok hv w⟩⟩
  | some e =>
    have hE := hok.get hl
    rw [hl] at hr
    cases e with
    | load t p v' =>
      simp only at hr
      split at hr
      · rename_i t' x ho
        split at hr
        · rename_i ht
          cases hr
          subst ht
          have hx := hc (α.eval x, .pointer (some p)) (List.mem_singleton.2 rfl)
          simp only at hx
          refine .inl ⟨rfl, nin hl (fun _ _ _ _ h => by cases h), .inl ⟨rfl, fun w hw hf => ?_⟩⟩
          have g := hE w hw hf
          simp [execOp, ho, hx, g]
        · cases hr
      · cases hr
    | cmp op t x y v' =>
      simp only at hr
      split at hr
      · rename_i op' t' x' y' t2 ho
        split at hr
        · rename_i ht
          cases hr
          obtain ⟨rfl, rfl⟩ := ht
          have hx := hc (α.eval x', x) (by simp)
          have hy := hc (α.eval y', y) (by simp)
          simp only at hx hy
          refine .inl ⟨rfl, nin hl (fun _ _ _ _ h => by cases h), .inl ⟨rfl, fun w _ _ => ?_⟩⟩
          obtain ⟨g1, g2⟩ := hE x' y' w
          simp [execOp, ho, hx, hy, g1, g2]
        · cases hr
      · cases hr
    | call f args v' =>
      simp only at hr
      split at hr
      · rename_i c ho
        split at hr
        · rename_i g hcal
          split at hr
          · rename_i hg
            cases hr
            subst hg
            have hx := agg_inj (hc (.agg (c.args.map α.eval), .agg args.toArray) (List.mem_singleton.2 rfl))
            refine .inl ⟨rfl, nin hl (fun _ _ _ _ h => by cases h), .inr ⟨g, args.toArray, fun w => ?_, .inl ⟨rfl, hE.2⟩⟩⟩
            have hf : α.eval (.func g) = .func (.func g) #[] #[] := rfl
            generalize α.eval = ρ at hx hf
            have hcf := hE.1 args.toArray w
            simp [execOp, ho, resolve, hcal, hx, hf, invoke, go_sem, hcf]
          · cases hr
        · cases hr
      · cases hr
    | make t ks ps v' =>
      simp only at hr
      split at hr
      · rename_i t' qs ho
        split at hr
        · rename_i ht
          cases hr
          obtain ⟨rfl, hk⟩ := ht
          have hx := agg_inj (hc (.agg (qs.toList.map fun q => α.eval q.2).toArray, .agg ps.toArray) (List.mem_singleton.2 rfl))
          have hz := zip_eq hk (List.toArray_inj hx)
          refine .inl ⟨rfl, nin hl (fun _ _ _ _ h => by cases h), .inl ⟨rfl, fun w hw hf => ?_⟩⟩
          have g := hE w hw hf
          rw [← hz] at g
          simp [execOp, ho, g]
        · cases hr
      · cases hr
    | new t zs =>
      simp only at hr
      split at hr
      · rename_i t' ho
        split at hr
        · rename_i ht
          cases hr
          subst ht
          refine .inr (.inl ⟨zs, t', rfl, fun w hb => ?_⟩)
          have g := hE w
          rw [hb]
          simp [execOp, ho, g]
        · cases hr
      · cases hr
    | row t e n ks ps zs =>
      simp only at hr
      split at hr
      · rename_i t' n' qs ho
        split at hr
        · rename_i ht
          cases hr
          obtain ⟨rfl, rfl, hk⟩ := ht
          have hx := agg_inj (hc (.agg (qs.toList.map fun q => α.eval q.2).toArray, .agg ps.toArray) (List.mem_singleton.2 rfl))
          have hz := zip_eq hk (List.toArray_inj hx)
          refine .inr (.inl ⟨zs, e, rfl, fun w hb => ?_⟩)
          have g := hE w
          rw [← hz] at g
          rw [hb]
          simp [execOp, ho, g]
        · cases hr
      · cases hr
    | put t g x vs =>
      simp only at hr
      split at hr
      · rename_i t' xa xv ho
        split at hr
        · rename_i ht
          cases hr
          subst ht
          have hx := hc (α.eval xa, .pointer (some ⟨blk om β g, 0, none⟩)) (by simp)
          have hy := hc (α.eval xv, x) (by simp)
          simp only at hx hy
          refine .inr (.inr (.inl ⟨t', g, x, vs, rfl, rfl, fun w zs hw hf hzl hh => ?_⟩))
          have g1 := hE _ w zs hw hf hzl hh
          simp [execOp, ho, hx, hy, g1]
        · cases hr
      · cases hr
    | gen xs v' =>
      simp only at hr
      cases hr
      have hx := agg_inj (hc (.agg (o.op.operands.toList.map α.eval).toArray, .agg xs.toArray) (List.mem_singleton.2 rfl))
      exact .inl ⟨rfl, nin hl (fun _ _ _ _ h => by cases h), .inl ⟨rfl, fun w hw hf => hE o hi α.eval (List.toArray_inj hx) w hw hf⟩⟩
    | mk t e xl xc n k zs =>
      simp only at hr
      split at hr
      · rename_i t' x y ho
        split at hr
        · rename_i ht
          cases hr
          subst ht
          have hx := hc (α.eval x, xl) (by simp)
          have hy := hc (α.eval y, xc) (by simp)
          simp only at hx hy
          refine .inr (.inl ⟨zs, e, rfl, fun w hb => ?_⟩)
          have g := hE w
          rw [hb]
          simp [execOp, ho, hx, hy, g]
        · cases hr
      · cases hr
    | rel f args Φ =>
      simp only at hr
      split at hr
      · rename_i c ho
        split at hr
        · rename_i g hcal
          split at hr
          · rename_i hg
            cases hr
            subst hg
            have hx := agg_inj (hc (.agg (c.args.map α.eval), .agg args.toArray) (List.mem_singleton.2 rfl))
            refine .inl ⟨rfl, nin hl (fun _ _ _ _ h => by cases h), .inr ⟨g, args.toArray, fun w => ?_, .inr ⟨Φ, rfl, rfl, hE.2⟩⟩⟩
            have hf : α.eval (.func g) = .func (.func g) #[] #[] := rfl
            generalize α.eval = ρ at hx hf
            have hcf := hE.1 args.toArray w
            simp [execOp, ho, resolve, hcal, hx, hf, invoke, go_sem, hcf]
          · cases hr
        · cases hr
      · cases hr
    | app xs Φ =>
      simp only at hr
      cases hr
      have hx := agg_inj (hc (.agg (o.op.operands.toList.map α.eval).toArray, .agg xs.toArray) (List.mem_singleton.2 rfl))
      exact .inr (.inr (.inr ⟨rfl, nin hl (fun _ _ _ _ h => by cases h), xs, Φ, rfl, rfl, fun w hw hf => hE o hi α.eval (List.toArray_inj hx) w hw hf⟩))

theorem same_eval (G : Set P om tab ops a0 S B0 w0 olds far β) (h : Inv P om tab ops a0 S B0 w0 olds far β L a w) {i : Nat} {o : Oper} (hi : ops[i]? = some o) (hdep : ∀ j, waits o j = true → L j = true) {d : Tmp} (hd : d ∈ o.looksAt ops) :
    a.eval (.tmp d) = (planD P om tab ops a0 β i).1.eval (.tmp d) := by
  have hlt : i < ops.size := (Array.getElem?_eq_some_iff.1 hi).1
  have hw := (formed_op G.F hi).2 d hd
  rw [h.t d (fun j hj => hdep j (hw j hj).2), plan_eval G.pl (ops.size - i) i (by omega) (fun j hj => (hw j hj).1)]
theorem facts (h : Inv P om tab ops a0 S B0 w0 olds far β L a w) {i : Nat} {o : Oper} (hi : ops[i]? = some o) (hdep : ∀ j, waits o j = true → L j = true) : Fac tab β ops i w := fun j Φ hj hd => h.rl j Φ hj (dep_of h.cl hi hdep _ j hd)

theorem Inv.next {tabs : (Nat → Nat × Value) → List (Nat × Ent)} (G : SetX P om tabs ops a0 S B0 w0 olds far) {Q : Exit → Act → World → Prop} {i : Nat} {o : Oper} (hi : ops[i]? = some o) (hL : L i = false) (hdep : ∀ j, waits o j = true → L j = true) (h : ∃ β, Inv P om (tabs β) ops a0 S B0 w0 olds far β L a w) :
    if Region.wanted o (yielded ops a.tmps) = true then o.wp P a w (fun a' w' => ∃ β, Inv P om (tabs β) ops a0 S B0 w0 olds far β (fun j => j == i || L j) a' w') Q else ∃ β, Inv P om (tabs β) ops a0 S B0 w0 olds far β (fun j => j == i || L j) (a.put o.dst undef) w := by
  have hlt : i < ops.size := (Array.getElem?_eq_some_iff.1 hi).1
  obtain ⟨β0, h0⟩ := h
  -- whatever answer comes up, the plan goes on with it
  have turned := fun n => h0.turn G hL n
  have h1 := turned (w.heap.size, (β0 i).2)
  generalize hβ : upd β0 i (w.heap.size, (β0 i).2) = β at h1
  have hbi : (β i).1 = w.heap.size := by rw [← hβ]; simp [upd]
  obtain ⟨v, hv, hmore, hcase⟩ := plan_step (G.G β).pl hi
  have hwt : Region.wanted o (yielded ops a.tmps) = Region.wanted o (yielded ops (planD P om (tabs β) ops a0 β i).1.tmps) := wanted_congr (by rw [h1.z, plan_size (G.G β).pl i (by omega)]) (fun d hd => same_eval (G.G β) h1 hi hdep hd)
  rw [hwt]
  rcases hcase with ⟨hw, cs, hr, hcs⟩ | ⟨hw, hl, rfl⟩
  · rw [if_pos hw]
    have hc : ∀ c ∈ cs, c.1 = c.2 := fun c hc => Go.Takes.all_eq (G.G β).cs c (plan_more (G.G β).pl (ops.size - (i + 1)) (i + 1) (by omega) c (hcs c hc))
    have hsame := op_congr (a0 := a0) (G.G β).F hi (fun d hd => same_eval (G.G β) h1 hi hdep hd)
    unfold Oper.wp
    rw [hsame]
    rcases res_run (G.G β).ok hi hr hc with ⟨hn, hp, ⟨hnr, hval⟩ | ⟨f, args, hrun, ⟨hnr, hcall⟩ | ⟨Φ, hrel, hvβ, hcall⟩⟩⟩ | ⟨zs, e, hn, hrun⟩ | ⟨t, g, x, vs, hl, rfl, hrun⟩ | ⟨hn, hp, xs, Φ, hlk, hvβ, happ⟩
    · rw [hval w h1.s (facts h1 hi hdep)]
      exact ⟨β, h1.quiet (G.G β) hi hdep hv hn hp (Below.refl _ _) (fun Φ h => by rw [hnr] at h; cases h)⟩
    · rw [hrun w]
      simp only [Oper.upon]
      refine (hcall w h1.s (facts h1 hi hdep)).mono fun e w' he => ?_
      obtain ⟨rfl, hb⟩ := he
      exact ⟨β, h1.quiet (G.G β) hi hdep hv hn hp hb (fun Φ h => by rw [hnr] at h; cases h)⟩
    · rw [hrun w]
      simp only [Oper.upon]
      refine (hcall w h1.s (facts h1 hi hdep)).mono fun e w' he => ?_
      obtain ⟨u, rfl, hΦ, hb, hfr⟩ := he
      -- the plan for this very answer
      have h2 := turned (w.heap.size, u)
      have hsl : look (tabs (upd β0 i (w.heap.size, u))) i = look (tabs β) i := by
        have hii : depB ops ops.size i i = false := by
          rw [Bool.eq_false_iff]
          intro hd
          have := dep_of h0.cl hi hdep _ i hd
          rw [hL] at this
          cases this
        rw [G.loc β0 i _ i hii, ← hβ, G.loc β0 i _ i hii]
      generalize hγ : upd β0 i (w.heap.size, u) = γ at h2 hsl
      have hγi : (γ i).2 = u := by rw [← hγ]; simp [upd]
      obtain ⟨v2, hv2, _, hcase2⟩ := plan_step (G.G γ).pl hi
      have hvu : v2 = u := by
        rcases hcase2 with ⟨_, cs2, hr2, _⟩ | ⟨hw2, _, _⟩
        · unfold res at hr2
          rw [hsl] at hr2
          cases hq : look (tabs β) i with
          | none => rw [hq] at hrel; cases hrel
          | some x =>
            rw [hq] at hr2 hrel
            cases x with
            | rel f' args' Φ' =>
              simp only at hr2
              split at hr2
              · split at hr2
                · split at hr2
                  · cases hr2; exact hγi
                  · cases hr2
                · cases hr2
              · cases hr2
            | app xs' Φ' =>
              simp only at hr2
              cases hr2
              exact hγi
            | _ => cases hrel
        · have : Region.wanted o (yielded ops a.tmps) = Region.wanted o (yielded ops (planD P om (tabs γ) ops a0 γ i).1.tmps) := wanted_congr (by rw [h2.z, plan_size (G.G γ).pl i (by omega)]) (fun d hd => same_eval (G.G γ) h2 hi hdep hd)
          rw [hwt, hw, hw2] at this
          cases this
      rw [← hvu]
      exact ⟨γ, h2.quiet (G.G γ) hi hdep hv2 (by rw [hsl]; exact hn) (fun g => by unfold into; rw [hsl]; exact hp g) hb (fun Ψ hΨ => by rw [hsl, hrel] at hΨ; cases hΨ; rw [hγi]; exact ⟨hΦ, hfr⟩)⟩
    · rw [hrun w hbi]
      exact ⟨β, h1.made (G.G β) hi hL hdep hv hn hbi⟩
    · obtain ⟨⟨zs, hz, hh⟩, h2⟩ := h1.stored (G.G β) hi hdep hv hl
      rw [hrun w zs h1.s (facts h1 hi hdep) hz hh]
      exact ⟨β, h2⟩
    · obtain ⟨u, w', hrun, hΦ, hkept, hfr⟩ := happ w h1.s (facts h1 hi hdep)
      rw [hrun]
      have hrel : relOf (look (tabs β) i) = some Φ := by rw [hlk]; rfl
      have h2 := turned (w.heap.size, u)
      have hnd : ∀ j, L j = true → depB ops ops.size j i = false := fun j hj => by
        rw [Bool.eq_false_iff]
        intro hd
        have := dep_in h0.cl _ _ _ hd hj
        rw [hL] at this
        cases this
      have hii : depB ops ops.size i i = false := by
        rw [Bool.eq_false_iff]
        intro hd
        have := dep_of h0.cl hi hdep _ i hd
        rw [hL] at this
        cases this
      have hsl : ∀ j, depB ops ops.size j i = false → look (tabs (upd β0 i (w.heap.size, u))) j = look (tabs β) j := fun j hj => by
        rw [G.loc β0 i _ j hj, ← hβ, G.loc β0 i _ j hj]
      have hne : ∀ j, j ≠ i → upd β0 i (w.heap.size, u) j = β j := fun j hj => by
        rw [← hβ]
        simp [upd, hj]
      generalize hγ : upd β0 i (w.heap.size, u) = γ at h2 hsl hne
      have hγi : (γ i).2 = u := by rw [← hγ]; simp [upd]
      obtain ⟨v2, hv2, _, hcase2⟩ := plan_step (G.G γ).pl hi
      have hvu : v2 = u := by
        rcases hcase2 with ⟨_, cs2, hr2, _⟩ | ⟨hw2, _, _⟩
        · unfold res at hr2
          rw [hsl i hii, hlk] at hr2
          simp only at hr2
          cases hr2
          exact hγi
        · have : Region.wanted o (yielded ops a.tmps) = Region.wanted o (yielded ops (planD P om (tabs γ) ops a0 γ i).1.tmps) := wanted_congr (by rw [h2.z, plan_size (G.G γ).pl i (by omega)]) (fun d hd => same_eval (G.G γ) h2 hi hdep hd)
          rw [hwt, hw, hw2] at this
          cases this
      rw [← hvu]
      refine ⟨γ, h2.quietK (G.G γ) hi hdep hv2 (by rw [hsl i hii]; exact hn) (fun g => by unfold into; rw [hsl i hii]; exact hp g) ?_ (fun Ψ hΨ => by rw [hsl i hii, hrel] at hΨ; cases hΨ; rw [hγi]; exact ⟨hΦ, hfr⟩)⟩
      rcases hkept with hb | ⟨k1, k2, k3, k4⟩
      · exact .inl hb
      · refine .inr ⟨fun j hj => by rw [hsl j (hnd j hj)]; exact k1 j, k2, k3, fun j Ψ hj lj hji hw => ?_⟩
        rw [hsl j (hnd j lj)] at hj
        rw [hne j hji] at hw ⊢
        exact k4 j Ψ hj (hnd j lj) hw
  · rw [hw, if_neg (by simp)]
    exact ⟨β, h1.quiet (G.G β) hi hdep hv (by rw [hl]; rfl) (fun g => by unfold into; rw [hl]) (Below.refl _ _) (fun Φ h => by rw [hl] at h; cases h)⟩

/-- The region, once for all orders. -/
theorem region {tabs : (Nat → Nat × Value) → List (Nat × Ent)} {id : Nat} {Q : Exit → Act → World → Prop} (hm : P.follows .mixedOrders = true) (G : SetX P om tabs ops a0 S B0 w0 olds far) (h0 : S w0) (hd : w0 = w.drew)
    (hol : ∀ p zs, (p, zs) ∈ olds → Holds (om p) zs w0)
    (hend : ∀ β w', S w' → w0.heap.size ≤ w'.heap.size → Below B0 w0 w' →
      (∀ i zs, newOf (look (tabs β) i) = some zs → w0.heap.size ≤ (β i).1 ∧ (β i).1 < w'.heap.size ∧ Holds (β i).1 (cur (tabs β) (fun _ => true) (.own i) zs) w') →
      (∀ i j zi zj, newOf (look (tabs β) i) = some zi → newOf (look (tabs β) j) = some zj → i ≠ j → (β i).1 ≠ (β j).1) →
      (∀ p zs, (p, zs) ∈ olds → Holds (om p) (cur (tabs β) (fun _ => true) (.old p) zs) w') →
      (∀ i Φ, relOf (look (tabs β) i) = some Φ → Φ (β i).2 w') → Q .normal (fin P om (tabs β) ops a0 β) w') : (Code.region id ops true).wp P Q a0 w := by
  subst hd
  have G0 := G.G (fun _ => (0, undef))
  refine Go.Takes.wp_region_inv hm (fun L a w' => ∃ β, Inv P om (tabs β) ops a0 S B0 w.drew olds far β L a w') ?_ ?_ ?_ (formed_sel G0.F).1
  · refine ⟨fun _ => (0, undef), ⟨rfl, rfl, fun d hd => ?_, h0, Nat.le_refl _, Below.refl _ _, fun i zs _ h => (by cases h), fun i j zi zj _ _ h => (by cases h), fun p zs hp => ?_, fun i Φ _ h => (by cases h), fun k Φ j zs _ _ h => (by cases h), fun i o j _ h => (by cases h)⟩⟩
    · have hno : ∀ j, j ∉ writers ops d := fun j hj => by cases hd j hj
      unfold fin
      rw [plan_start G0.pl (Nat.le_refl _) hno]
    · have : cur (tabs fun _ => (0, undef)) (fun _ => false) (.old p) zs = zs := by
        unfold cur
        split <;> rfl
      rw [this]
      exact hol p zs hp
  · rintro L a w' i o hi hL hdep hI
    exact Inv.next G (Q := Q) hi hL (fun j hj => by obtain ⟨e, he, hb, rfl⟩ := waits_spec hj; exact hdep e he hb) hI
  · rintro L a w' hall ⟨β, h⟩
    have Gβ := G.G β
    have hcur : ∀ g zs, cur (tabs β) L g zs = cur (tabs β) (fun _ => true) g zs := fun g zs => by
      unfold cur
      split
      · rename_i k hk
        obtain ⟨e, he⟩ := puts_mem hk
        rw [hall k (tidy_lt Gβ.ty he)]
      · rfl
    have hin : ∀ i, look (tabs β) i ≠ none → L i = true := fun i hi => by
      cases hl : look (tabs β) i with
      | none => exact absurd hl hi
      | some e =>
        obtain ⟨e', he⟩ := look_mem hl
        exact hall i (tidy_lt Gβ.ty he)
    have hnew : ∀ i zs, newOf (look (tabs β) i) = some zs → L i = true := fun i zs hi => hin i (fun e => by rw [e] at hi; cases hi)
    have hrel : ∀ i Φ, relOf (look (tabs β) i) = some Φ → L i = true := fun i zs hi => hin i (fun e => by rw [e] at hi; cases hi)
    have hq := hend β w' h.s h.hz h.b (fun i zs hi => by rw [← hcur]; exact h.nw i zs hi (hnew i zs hi)) (fun i j zi zj hi hj hne => h.ne i j zi zj hi hj (hnew i zi hi) (hnew j zj hj) hne) (fun p zs hp => by rw [← hcur]; exact h.ol p zs hp) (fun i Φ hi => h.rl i Φ hi (hrel i Φ hi))
    have ez : a.tmps.size = (fin P om (tabs β) ops a0 β).tmps.size := by rw [h.z]; exact (plan_size Gβ.pl ops.size (Nat.le_refl _)).symm
    have et : a.tmps = (fin P om (tabs β) ops a0 β).tmps := by
      refine Array.ext ez fun d h1 h2 => ?_
      have h3 := h.t d (fun j hj => by obtain ⟨o, ho, _⟩ := mem_writers.1 hj; exact hall j (Array.getElem?_eq_some_iff.1 ho).1)
      unfold Act.eval at h3
      simp only [Array.getD_eq_getD_getElem?] at h3
      rwa [Array.getElem?_eq_getElem h1, Array.getElem?_eq_getElem h2] at h3
    have ed : a.defers = (fin P om (tabs β) ops a0 β).defers := by rw [h.d]; exact (plan_defers Gβ.pl ops.size (Nat.le_refl _)).symm
    have : a = fin P om (tabs β) ops a0 β := by
      cases a
      generalize fin P om (tabs β) ops a0 β = b at et ed
      cases b
      simp only at et ed
      rw [et, ed]
    rw [this]
    exact hq

theorem fin_puts (hF : formed ops a0.tmps.size = true) (h : (plan P om tab ops a0 β ops.size).isSome = true) : ∀ n, n ≤ ops.size → (planD P om tab ops a0 β n).1 = puts a0 (trace ops (fin P om tab ops a0 β) n)
  | 0, _ => rfl
  | n + 1, hn => by
    have hi := Array.getElem?_eq_getElem (show n < ops.size by omega)
    obtain ⟨v, h1, _⟩ := plan_step h hi
    rw [h1, fin_puts hF h n (by omega)]
    unfold trace puts
    rw [List.range_succ, List.filterMap_append, List.foldl_append]
    cases hd : (ops[n]'(by omega)).dst with
    | none => simp [hi, hd, Act.put]
    | some d =>
      have := fin_dst hF h hi h1 hd
      simp [hi, hd, this]

/-- The region, once for all orders; what is left in the slots as a list. -/
theorem region_puts {tabs : (Nat → Nat × Value) → List (Nat × Ent)} {id : Nat} {Q : Exit → Act → World → Prop} (hm : P.follows .mixedOrders = true) (G : SetX P om tabs ops a0 S B0 w0 olds far) (h0 : S w0) (hd : w0 = w.drew)
    (hol : ∀ p zs, (p, zs) ∈ olds → Holds (om p) zs w0) (vs : (Nat → Nat × Value) → List (Tmp × Value)) (hvs : ∀ β, trace ops (fin P om (tabs β) ops a0 β) ops.size = vs β)
    (hend : ∀ β w', S w' → w0.heap.size ≤ w'.heap.size → Below B0 w0 w' →
      (∀ i zs, newOf (look (tabs β) i) = some zs → w0.heap.size ≤ (β i).1 ∧ (β i).1 < w'.heap.size ∧ Holds (β i).1 (cur (tabs β) (fun _ => true) (.own i) zs) w') →
      (∀ i j zi zj, newOf (look (tabs β) i) = some zi → newOf (look (tabs β) j) = some zj → i ≠ j → (β i).1 ≠ (β j).1) →
      (∀ p zs, (p, zs) ∈ olds → Holds (om p) (cur (tabs β) (fun _ => true) (.old p) zs) w') →
      (∀ i Φ, relOf (look (tabs β) i) = some Φ → Φ (β i).2 w') → Q .normal (puts a0 (vs β)) w') : (Code.region id ops true).wp P Q a0 w :=
  region hm G h0 hd hol fun β w' g1 g2 g3 g4 g5 g6 g7 => by
    have := hend β w' g1 g2 g3 g4 g5 g6 g7
    rw [← hvs, ← fin_puts (G.G β).F (G.G β).pl ops.size (Nat.le_refl _)] at this
    exact this
end
end Go.FreeX
