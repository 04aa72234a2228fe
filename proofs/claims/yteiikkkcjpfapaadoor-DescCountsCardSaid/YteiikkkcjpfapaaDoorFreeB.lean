/- A region that draws its order, once for all orders: the proof. No condition on the program. -/
import Derived.Test.YteiikkkcjpfapaaDoorFree
namespace Go.Free
open Go Go.RowKit

theorem Holds.below {b : Nat} {vs : List Value} {w w' : World} (h : Holds b vs w) {B : Nat} (hb : Below B w w') (hB : b < B) : Holds b vs w' := fun k v hk => by
  obtain ⟨h1, h2⟩ := h k v hk
  exact ⟨by rw [hb.cell (p := ⟨b, k, none⟩) hB]; exact h1, by rw [hb.frozen (p := ⟨b, k, none⟩) hB]; exact h2⟩
theorem Holds.new {zs : List Value} {w : World} {e : TypeId} : Holds w.heap.size zs (w.alloc (.cells zs.toArray e)) := fun k v hk => by
  refine ⟨?_, by simp [go_sem]⟩
  have := World.cell?_alloc_new w zs.toArray e k
  rw [this]
  simpa using hk
theorem Holds.put {b : Nat} {zs vs : List Value} {w : World} (h : Holds b zs w) (hl : zs.length = vs.length) : Holds b vs (w.setCells b 0 vs) := fun k v hk => by
  obtain ⟨hlt, rfl⟩ := List.getElem?_eq_some_iff.1 hk
  have hk0 : ∀ j, j < vs.length → (w.cell? ⟨b, j, none⟩).isSome = true := fun j hj => by
    rw [(h j (zs[j]'(by omega)) (List.getElem?_eq_getElem (by omega))).1]
    rfl
  refine ⟨?_, ?_⟩
  · have := World.cell?_setCells_in b vs 0 w (fun j hj => by rw [Nat.zero_add]; exact hk0 j hj) k hlt
    rwa [Nat.zero_add] at this
  · rw [World.frozen?_setCells]
    exact (h k (zs[k]'(by omega)) (List.getElem?_eq_getElem (by omega))).2
theorem Holds.other {b q : Nat} {zs vs : List Value} {w : World} (h : Holds q zs w) (hq : q ≠ b) : Holds q zs (w.setCells b 0 vs) := fun k v hk => by
  obtain ⟨h1, h2⟩ := h k v hk
  refine ⟨?_, by rw [World.frozen?_setCells]; exact h2⟩
  rw [World.cell?_setCells_out b vs 0 w _ (fun e _ => absurd e hq)]
  exact h1
theorem size_setCells (b : Nat) : ∀ (vs : List Value) (o : Nat) (w : World), (w.setCells b o vs).heap.size = w.heap.size
  | [], _, _ => rfl
  | v :: r, o, w => by rw [World.setCells, size_setCells b r (o + 1) (w.setCell ⟨b, o, none⟩ v)]; simp [World.setCell]
theorem below_setCells {B b : Nat} (hB : B ≤ b) {a : World} : ∀ (vs : List Value) (o : Nat) (w : World), Below B a w → Below B a (w.setCells b o vs)
  | [], _, _, h => h
  | v :: r, o, _, h => below_setCells hB r (o + 1) _ (h.setCell hB v)

section
variable (P : Program) (om : Nat → Nat) (tab : List (Nat × Ent)) (ops : Array Oper) (a0 : Act) (S : World → Prop) (B0 : Nat) (w0 : World) (olds : List (Nat × List Value))

structure Inv (β : Nat → Nat) (L : Nat → Bool) (a : Act) (w : World) : Prop where
  d : a.defers = a0.defers
  z : a.tmps.size = a0.tmps.size
  t : ∀ d, (∀ j ∈ writers ops d, L j = true) → a.eval (.tmp d) = (fin P om tab ops a0 β).eval (.tmp d)
  s : S w
  hz : w0.heap.size ≤ w.heap.size
  b : Below B0 w0 w
  nw : ∀ i zs, newOf (look tab i) = some zs → L i = true → w0.heap.size ≤ β i ∧ β i < w.heap.size ∧ Holds (β i) (cur tab L (.own i) zs) w
  ne : ∀ i j zi zj, newOf (look tab i) = some zi → newOf (look tab j) = some zj → L i = true → L j = true → i ≠ j → β i ≠ β j
  ol : ∀ p zs, (p, zs) ∈ olds → Holds (om p) (cur tab L (.old p) zs) w
  cl : ∀ i o j, ops[i]? = some o → L i = true → waits o j = true → L j = true
end

section
variable {P : Program} {om : Nat → Nat} {tab : List (Nat × Ent)} {ops : Array Oper} {a0 : Act} {S : World → Prop} {B0 : Nat} {w0 : World} {olds : List (Nat × List Value)} {β : Nat → Nat} {L : Nat → Bool} {a : Act} {w : World}

/-- What is given ahead. -/
structure Set (P : Program) (om : Nat → Nat) (tab : List (Nat × Ent)) (ops : Array Oper) (a0 : Act) (S : World → Prop) (B0 : Nat) (w0 : World) (olds : List (Nat × List Value)) : Prop where
  F : formed ops a0.tmps.size = true
  ok : AllOk P S ops tab
  pl : ∀ β, (plan P om tab ops a0 β ops.size).isSome = true
  cs : ∀ β, (planD P om tab ops a0 β ops.size).2.map (·.1) = (planD P om tab ops a0 β ops.size).2.map (·.2)
  st : ∀ β, still P om tab ops a0 β = still P om tab ops a0 (fun _ => 0)
  ty : tidy tab ops olds = true
  S : ∀ w w', S w → Below B0 w w' → S w'
  b0 : B0 ≤ w0.heap.size
  ol : ∀ p zs, (p, zs) ∈ olds → B0 ≤ om p ∧ om p < w0.heap.size
  od : ∀ p q zs zs', (p, zs) ∈ olds → (q, zs') ∈ olds → p ≠ q → om p ≠ om q

theorem new_val (G : Set P om tab ops a0 S B0 w0 olds) {j : Nat} {zs : List Value} (hn : newOf (look tab j) = some zs) {o : Oper} (hj : ops[j]? = some o) {d : Tmp} (hd : o.dst = some d) {β' : Nat → Nat} (e : β' j = β j) :
    (fin P om tab ops a0 β').eval (.tmp d) = (fin P om tab ops a0 β).eval (.tmp d) := by
  have key : ∀ γ : Nat → Nat, (∃ t zs, look tab j = some (.new t zs) ∧ (fin P om tab ops a0 γ).eval (.tmp d) = .pointer (some ⟨γ j, 0, none⟩)) ∨ ∃ t e n ks ps zs, look tab j = some (.row t e n ks ps zs) ∧ (fin P om tab ops a0 γ).eval (.tmp d) = .slice (some ⟨γ j, 0, none⟩) n n := fun γ => by
    obtain ⟨v, h1, _, h3⟩ := plan_step (G.pl γ) hj
    have h4 := fin_dst G.F (G.pl γ) hj h1 hd
    rw [h4]
    rcases h3 with ⟨_, cs, hr, _⟩ | ⟨_, hl, _⟩
    · unfold res at hr
      cases hl : look tab j with
      | none => rw [hl] at hn; cases hn
      | some e =>
        rw [hl] at hr hn
        cases e with
        | new t zs =>
          simp only at hr
          split at hr
          · split at hr
            · cases hr
              exact .inl ⟨_, _, rfl, rfl⟩
            · cases hr
          · cases hr
        | row t e n ks ps zs =>
          simp only at hr
          split at hr
          · split at hr
            · cases hr
              exact .inr ⟨_, _, _, _, _, _, rfl, rfl⟩
            · cases hr
          · cases hr
        | _ => cases hn
    · rw [hl] at hn; cases hn
  rcases key β with ⟨t, zs, h1, h2⟩ | ⟨t, e1, n, ks, ps, zs, h1, h2⟩
  · rcases key β' with ⟨t', zs', g1, g2⟩ | ⟨t', e1', n', ks', ps', zs', g1, g2⟩
    · rw [h2, g2, e]
    · rw [h1] at g1; cases g1
  · rcases key β' with ⟨t', zs', g1, g2⟩ | ⟨t', e1', n', ks', ps', zs', g1, g2⟩
    · rw [h1] at g1; cases g1
    · rw [h1] at g1; cases g1
      rw [h2, g2, e]
theorem still_val (G : Set P om tab ops a0 S B0 w0 olds) {j : Nat} {o : Oper} (hj : ops[j]? = some o) (hn : newOf (look tab j) = none) {d : Tmp} (hd : o.dst = some d) (β' : Nat → Nat) :
    (fin P om tab ops a0 β').eval (.tmp d) = (fin P om tab ops a0 β).eval (.tmp d) := by
  have hlt : j < ops.size := (Array.getElem?_eq_some_iff.1 hj).1
  have key : ∀ γ : Nat → Nat, (still P om tab ops a0 γ)[j]? = some ((fin P om tab ops a0 γ).eval (.tmp d)) := fun γ => by
    unfold still
    rw [List.getElem?_map, List.getElem?_range hlt]
    have : isNew (look tab j) = false := by
      cases hl : look tab j with
      | none => rfl
      | some e =>
        rw [hl] at hn
        cases e <;> first | rfl | cases hn
    simp [this, hj, hd]
  have h1 := key β
  rw [G.st β, ← G.st β', key β'] at h1
  exact Option.some.inj h1

theorem Inv.turn (G : Set P om tab ops a0 S B0 w0 olds) (h : Inv P om tab ops a0 S B0 w0 olds β L a w) {i : Nat} (hi : L i = false) (n : Nat) : Inv P om tab ops a0 S B0 w0 olds (fun j => if j = i then n else β j) L a w := by
  have far : ∀ j, L j = true → (if j = i then n else β j) = β j := fun j hj => by
    rw [if_neg]
    rintro rfl
    rw [hi] at hj
    cases hj
  refine ⟨h.d, h.z, fun d hd => ?_, h.s, h.hz, h.b, fun j zs hj hl => ?_, fun j k zi zj hj hk lj lk hne => ?_, h.ol, h.cl⟩
  · rw [h.t d hd]
    by_cases hw : ∃ j, j ∈ writers ops d
    · obtain ⟨j, hj⟩ := hw
      obtain ⟨o, ho, hod⟩ := mem_writers.1 hj
      cases hn : newOf (look tab j) with
      | some zs => exact (new_val G hn ho hod (far j (hd j hj))).symm
      | none => exact still_val G ho hn hod _
    · have hno : ∀ j ∈ writers ops d, j < 0 := fun j hj => absurd ⟨j, hj⟩ hw
      rw [← plan_eval (G.pl β) ops.size 0 (by omega) hno, ← plan_eval (G.pl _) ops.size 0 (by omega) hno]
      rfl
  · rw [far j hl]
    exact h.nw j zs hj hl
  · rw [far j lj, far k lk]
    exact h.ne j k zi zj hj hk lj lk hne

theorem lor_ne {i j : Nat} (hn : j ≠ i) : (j == i || L j) = L j := by simp [hn]
theorem lor_of {i j : Nat} (h : L j = true) : (j == i || L j) = true := by simp [h]
theorem cur_same {i : Nat} {g : Tgt} {zs : List Value} (hp : into tab i g = none) : cur tab (fun j => j == i || L j) g zs = cur tab L g zs := by
  unfold cur
  split
  · rename_i k hk
    by_cases e : k = i
    · subst e
      rw [hp]
      simp
    · simp only [lor_ne e]
  · rfl
theorem cur_put {i : Nat} {t : TypeId} {g : Tgt} {x : Value} {vs zs : List Value} (hl : look tab i = some (.put t g x vs)) (hp : putsOf tab g = some i) : cur tab (fun j => j == i || L j) g zs = vs := by
  unfold cur
  rw [hp]
  have : into tab i g = some vs := by
    unfold into
    rw [hl]
    simp [Tgt.same_iff.2 rfl]
  simp [this]
theorem cur_len {g : Tgt} {zs : List Value} (hz : ∀ i t x vs, look tab i = some (.put t g x vs) → zs.length = vs.length) : (cur tab L g zs).length = zs.length := by
  unfold cur
  split
  · rename_i k hk
    split
    · unfold into
      split
      · rename_i t h x vs hl
        split
        · rename_i hs
          have := Tgt.same_iff.1 hs
          subst this
          exact (hz _ _ _ _ hl).symm
        · rfl
      · rfl
    · rfl
  · rfl

/-- What does not touch the blocks. -/
theorem Inv.quiet (G : Set P om tab ops a0 S B0 w0 olds) (h : Inv P om tab ops a0 S B0 w0 olds β L a w) {i : Nat} {o : Oper} (hi : ops[i]? = some o) (hdep : ∀ j, waits o j = true → L j = true) {v : Value} (hv : (planD P om tab ops a0 β (i + 1)).1 = (planD P om tab ops a0 β i).1.put o.dst v)
    (hnew : newOf (look tab i) = none) (hput : ∀ g, into tab i g = none) {w' : World} (hb : Below w.heap.size w w') :
    Inv P om tab ops a0 S B0 w0 olds β (fun j => j == i || L j) (a.put o.dst v) w' where
  d := by rw [← h.d]; cases o.dst <;> rfl
  z := by rw [size_put]; exact h.z
  t := fun d hd => by
    by_cases e : o.dst = some d
    · rw [fin_dst G.F (G.pl β) hi hv e, e, eval_put_eq]
      rw [h.z]
      exact ((formed_op G.F hi).1 d e).1
    · rw [eval_put_ne e]
      refine h.t d fun j hj => ?_
      have := hd j hj
      rwa [lor_ne] at this
      rintro rfl
      obtain ⟨o', ho, hod⟩ := mem_writers.1 hj
      rw [hi] at ho
      cases ho
      exact e hod
  s := G.S _ _ h.s (hb.mono (Nat.le_trans G.b0 h.hz))
  hz := Nat.le_trans h.hz hb.size
  b := h.b.trans (hb.mono (Nat.le_trans G.b0 h.hz))
  nw := fun j zs hj hl => by
    have e : j ≠ i := by rintro rfl; rw [hnew] at hj; cases hj
    rw [cur_same (hput _)]
    obtain ⟨h1, h2, h3⟩ := h.nw j zs hj (by simpa [e] using hl)
    exact ⟨h1, Nat.lt_of_lt_of_le h2 hb.size, h3.below hb h2⟩
  ne := fun j k zi zj hj hk lj lk hne => by
    have e : j ≠ i := by rintro rfl; rw [hnew] at hj; cases hj
    have e' : k ≠ i := by rintro rfl; rw [hnew] at hk; cases hk
    exact h.ne j k zi zj hj hk (by simpa [e] using lj) (by simpa [e'] using lk) hne
  ol := fun p zs hp => by
    rw [cur_same (hput _)]
    exact (h.ol p zs hp).below hb (by have := (G.ol p zs hp).2; have := h.hz; omega)
  cl := fun j o' k hj hl hk => by
    by_cases e : j = i
    · subst e
      rw [hi] at hj
      cases hj
      exact lor_of (hdep k hk)
    · exact lor_of (h.cl j o' k hj (by simpa [e] using hl) hk)

theorem Inv.made (G : Set P om tab ops a0 S B0 w0 olds) (h : Inv P om tab ops a0 S B0 w0 olds β L a w) {i : Nat} {o : Oper} (hi : ops[i]? = some o) (hL : L i = false) (hdep : ∀ j, waits o j = true → L j = true) {v : Value} (hv : (planD P om tab ops a0 β (i + 1)).1 = (planD P om tab ops a0 β i).1.put o.dst v)
    {zs : List Value} {e : TypeId} (hnew : newOf (look tab i) = some zs) (hb : β i = w.heap.size) :
    Inv P om tab ops a0 S B0 w0 olds β (fun j => j == i || L j) (a.put o.dst v) (w.alloc (.cells zs.toArray e)) where
  d := by rw [← h.d]; cases o.dst <;> rfl
  z := by rw [size_put]; exact h.z
  t := fun d hd => by
    by_cases e : o.dst = some d
    · rw [fin_dst G.F (G.pl β) hi hv e, e, eval_put_eq]
      rw [h.z]
      exact ((formed_op G.F hi).1 d e).1
    · rw [eval_put_ne e]
      refine h.t d fun j hj => ?_
      have := hd j hj
      rwa [lor_ne] at this
      rintro rfl
      obtain ⟨o', ho, hod⟩ := mem_writers.1 hj
      rw [hi] at ho
      cases ho
      exact e hod
  s := G.S _ _ h.s ((Below.refl _ _).alloc (Nat.le_trans G.b0 h.hz) _)
  hz := Nat.le_trans h.hz (by simp)
  b := h.b.alloc (Nat.le_trans G.b0 h.hz) _
  nw := fun j zs' hj hl => by
    have hp : ∀ g, into tab i g = none := fun g => by
      unfold into
      split
      · rename_i hl2
        rw [hl2] at hnew
        cases hnew
      · rfl
    rw [cur_same (hp _)]
    by_cases e : j = i
    · subst e
      rw [hnew] at hj
      cases hj
      rw [hb]
      refine ⟨h.hz, by simp, ?_⟩
      have : cur tab L (.own j) zs = zs := by
        unfold cur
        split
        · rename_i k hk
          split
          · rename_i hLk
            unfold into
            split
            · rename_i t g x vs hl2
              split
              · rename_i hs
                have := Tgt.same_iff.1 hs
                subst this
                obtain ⟨_, h2, _⟩ := tidy_put G.ty hl2
                obtain ⟨zs2, o2, _, ho2, _, hw2⟩ := h2 j rfl
                have := h.cl k o2 j ho2 hLk hw2
                rw [hL] at this
                cases this
              · rfl
            · rfl
          · rfl
        · rfl
      rw [this]
      exact Holds.new
    · obtain ⟨h1, h2, h3⟩ := h.nw j zs' hj (by simpa [e] using hl)
      exact ⟨h1, by simp; omega, h3.below ((Below.refl w.heap.size w).alloc (Nat.le_refl _) _) h2⟩
  ne := fun j k zi zj hj hk lj lk hne => by
    by_cases e : j = i
    · subst e
      have e' : k ≠ j := fun e => hne e.symm
      have := (h.nw k zj hk (by simpa [e'] using lk)).2.1
      omega
    · by_cases e' : k = i
      · subst e'
        have := (h.nw j zi hj (by simpa [e] using lj)).2.1
        omega
      · exact h.ne j k zi zj hj hk (by simpa [e] using lj) (by simpa [e'] using lk) hne
  ol := fun p zs' hp => by
    have hp2 : ∀ g, into tab i g = none := fun g => by
      unfold into
      split
      · rename_i hl2
        rw [hl2] at hnew
        cases hnew
      · rfl
    rw [cur_same (hp2 _)]
    exact (h.ol p zs' hp).below ((Below.refl w.heap.size w).alloc (Nat.le_refl _) _) (by have := (G.ol p zs' hp).2; have := h.hz; omega)
  cl := fun j o' k hj hl hk => by
    by_cases e : j = i
    · subst e
      rw [hi] at hj
      cases hj
      exact lor_of (hdep k hk)
    · exact lor_of (h.cl j o' k hj (by simpa [e] using hl) hk)

theorem Inv.stored (G : Set P om tab ops a0 S B0 w0 olds) (h : Inv P om tab ops a0 S B0 w0 olds β L a w) {i : Nat} {o : Oper} (hi : ops[i]? = some o) (hdep : ∀ j, waits o j = true → L j = true) {v : Value} (hv : (planD P om tab ops a0 β (i + 1)).1 = (planD P om tab ops a0 β i).1.put o.dst v)
    {t : TypeId} {g : Tgt} {x : Value} {vs : List Value} (hl : look tab i = some (.put t g x vs)) :
    (∃ zs, zs.length = vs.length ∧ Holds (blk om β g) zs w) ∧ Inv P om tab ops a0 S B0 w0 olds β (fun j => j == i || L j) (a.put o.dst v) (w.setCells (blk om β g) 0 vs) := by
  obtain ⟨hp, hown, hold⟩ := tidy_put G.ty hl
  have hlen : ∀ zs, (∀ t x vs', look tab i = some (.put t g x vs') → zs.length = vs'.length) → (cur tab L g zs).length = vs.length := fun zs hz => by
    rw [cur_len (fun k t x vs' hk => ?_)]
    · exact hz _ _ _ hl
    · have := (tidy_put G.ty hk).1
      rw [hp] at this
      cases this
      exact hz _ _ _ hk
  have hB : B0 ≤ blk om β g := by
    cases g with
    | own j =>
      obtain ⟨zs, o', h1, h2, _, h3⟩ := hown j rfl
      rw [hi] at h2
      cases h2
      exact Nat.le_trans G.b0 (h.nw j zs h1 (hdep j h3)).1
    | old p =>
      obtain ⟨⟨zs, h1⟩, _⟩ := hold p rfl
      exact (G.ol p zs h1).1
  have hnew : ∀ j zs, newOf (look tab j) = some zs → j ≠ i := fun j zs hj e => by
    subst e
    rw [hl] at hj
    cases hj
  have hin : ∀ g', g ≠ g' → into tab i g' = none := fun g' hg => by
    unfold into
    rw [hl]
    simp only
    rw [if_neg]
    intro e
    exact hg (Tgt.same_iff.1 e).symm
  refine ⟨?_, ?_⟩
  · cases g with
    | own j =>
      obtain ⟨zs, o', h1, h2, h4, h3⟩ := hown j rfl
      rw [hi] at h2
      cases h2
      exact ⟨_, hlen zs (fun t x vs' hk => by rw [hl] at hk; cases hk; exact h4), (h.nw j zs h1 (hdep j h3)).2.2⟩
    | old p =>
      obtain ⟨⟨zs, h1⟩, h2⟩ := hold p rfl
      exact ⟨_, hlen zs (fun t x vs' hk => by rw [hl] at hk; cases hk; exact h2 zs h1), h.ol p zs h1⟩
  exact {
    d := by rw [← h.d]; cases o.dst <;> rfl
    z := by rw [size_put]; exact h.z
    t := fun d hd => by
      by_cases e : o.dst = some d
      · rw [fin_dst G.F (G.pl β) hi hv e, e, eval_put_eq]
        rw [h.z]
        exact ((formed_op G.F hi).1 d e).1
      · rw [eval_put_ne e]
        refine h.t d fun j hj => ?_
        have := hd j hj
        rwa [lor_ne] at this
        rintro rfl
        obtain ⟨o', ho, hod⟩ := mem_writers.1 hj
        rw [hi] at ho
        cases ho
        exact e hod
    s := G.S _ _ h.s (below_setCells hB _ _ _ (Below.refl _ _))
    hz := by rw [size_setCells]; exact h.hz
    b := below_setCells hB _ _ _ h.b
    nw := fun j zs hj hlj => by
      have e := hnew j zs hj
      obtain ⟨h1, h2, h3⟩ := h.nw j zs hj (by simpa [e] using hlj)
      refine ⟨h1, by rw [size_setCells]; exact h2, ?_⟩
      by_cases hg : g = .own j
      · subst hg
        rw [cur_put hl hp]
        obtain ⟨zs', o', g1, g2, g4, g3⟩ := hown j rfl
        rw [hj] at g1
        cases g1
        exact h3.put (hlen zs (fun t x vs' hk => by rw [hl] at hk; cases hk; exact g4))
      · rw [cur_same (hin _ hg)]
        refine h3.other ?_
        cases g with
        | own k =>
          obtain ⟨zs', o', g1, g2, _, g3⟩ := hown k rfl
          rw [hi] at g2
          cases g2
          exact h.ne j k _ _ hj g1 (by simpa [e] using hlj) (hdep k g3) (fun e => hg (by rw [e]))
        | old p =>
          obtain ⟨⟨zs', g1⟩, _⟩ := hold p rfl
          have := (G.ol p zs' g1).2
          show β j ≠ om p
          omega
    ne := fun j k zi zj hj hk lj lk hne => h.ne j k zi zj hj hk (by simpa [hnew j zi hj] using lj) (by simpa [hnew k zj hk] using lk) hne
    ol := fun q zs hq => by
      by_cases hg : g = .old q
      · subst hg
        rw [cur_put hl hp]
        exact (h.ol q zs hq).put (hlen zs (fun t x vs' hk => by rw [hl] at hk; cases hk; exact (hold q rfl).2 zs hq))
      · rw [cur_same (hin _ hg)]
        refine (h.ol q zs hq).other ?_
        cases g with
        | own k =>
          obtain ⟨zs', o', g1, g2, _, g3⟩ := hown k rfl
          rw [hi] at g2
          cases g2
          have := (h.nw k zs' g1 (hdep k g3)).1
          have := (G.ol q zs hq).2
          show om q ≠ β k
          omega
        | old p =>
          obtain ⟨⟨zs', g1⟩, _⟩ := hold p rfl
          exact G.od q p _ _ hq g1 (fun e => hg (by rw [e]))
    cl := fun j o' k hj hlj hk => by
      by_cases e : j = i
      · subst e
        rw [hi] at hj
        cases hj
        exact lor_of (hdep k hk)
      · exact lor_of (h.cl j o' k hj (by simpa [e] using hlj) hk) }

theorem zip_eq {ks : List Nat} {ps : List Value} {qs : Array (Nat × Operand)} {ρ : Operand → Value} (h1 : qs.toList.map (·.1) = ks) (h2 : (qs.toList.map fun q => ρ q.2) = ps) : (qs.map fun (i, x) => (i, ρ x)) = zipped ks ps := by
  unfold zipped
  subst h1 h2
  apply Array.toList_inj.1
  rw [Array.toList_map]
  simp only [List.zip_map']
theorem agg_inj {x y : Array Value} (h : Value.agg x = .agg y) : x = y := by cases h; rfl

/-- What an operation does, by its entry. -/
theorem res_run (hok : AllOk P S ops tab) {α : Act} {i : Nat} {o : Oper} {v : Value} {cs : List (Value × Value)} (hi : ops[i]? = some o) (hr : res P om tab β α.eval i o = some (v, cs)) (hc : ∀ c ∈ cs, c.1 = c.2) :
    (newOf (look tab i) = none ∧ (∀ g, into tab i g = none) ∧ ((∀ w, S w → (execOp α.eval o).run P w = .ok (.value v) w) ∨ ∃ f args, (∀ w, (execOp α.eval o).run P w = .ok (.enter f args) w) ∧ ∀ w, S w → Calls P f args w fun e w' => e = .returned v ∧ Below w.heap.size w w')) ∨
    (∃ zs e, newOf (look tab i) = some zs ∧ ∀ w, β i = w.heap.size → (execOp α.eval o).run P w = .ok (.value v) (w.alloc (.cells zs.toArray e))) ∨
    (∃ t g x vs, look tab i = some (.put t g x vs) ∧ v = undef ∧ ∀ w zs, zs.length = vs.length → Holds (blk om β g) zs w → (execOp α.eval o).run P w = .ok .skip (w.setCells (blk om β g) 0 vs)) := by
  have nin : ∀ {e : Option Ent}, look tab i = e → (∀ t g x vs, e ≠ some (.put t g x vs)) → ∀ g, into tab i g = none := fun {e} he hne g => by
    unfold into
    rw [he]
    split
    · exact absurd rfl (hne _ _ _ _)
    · rfl
  unfold res at hr
  cases hl : look tab i with
  | none =>
    rw [hl] at hr
    simp only at hr
    obtain ⟨v', hv, he⟩ := Option.map_eq_some_iff.1 hr
    cases he
    exact .inl ⟨rfl, nin hl (fun _ _ _ _ h => by cases h), .inl fun w _ => Takes.val_ok hv w⟩
  | some e =>
    have hE := hok.get hl
    rw [hl] at hr
    cases e with
    | load t p v' =>
      simp only at hr
      split at hr
      · rename_i t' x ho
        split at hr
        · rename_i ht
          cases hr
          subst ht
          have hx := hc (α.eval x, .pointer (some p)) (List.mem_singleton.2 rfl)
          simp only at hx
          refine .inl ⟨rfl, nin hl (fun _ _ _ _ h => by cases h), .inl fun w hw => ?_⟩
          have g := hE w hw
          simp [execOp, ho, hx, g]
        · cases hr
      · cases hr
    | cmp op t x y v' =>
      simp only at hr
      split at hr
      · rename_i op' t' x' y' t2 ho
        split at hr
        · rename_i ht
          cases hr
          obtain ⟨rfl, rfl⟩ := ht
          have hx := hc (α.eval x', x) (by simp)
          have hy := hc (α.eval y', y) (by simp)
          simp only at hx hy
          refine .inl ⟨rfl, nin hl (fun _ _ _ _ h => by cases h), .inl fun w _ => ?_⟩
          obtain ⟨g1, g2⟩ := hE x' y' w
          simp [execOp, ho, hx, hy, g1, g2]
        · cases hr
      · cases hr
    | call f args v' =>
      simp only at hr
      split at hr
      · rename_i c ho
        split at hr
        · rename_i g hcal
          split at hr
          · rename_i hg
            cases hr
            subst hg
            have hx := agg_inj (hc (.agg (c.args.map α.eval), .agg args.toArray) (List.mem_singleton.2 rfl))
            refine .inl ⟨rfl, nin hl (fun _ _ _ _ h => by cases h), .inr ⟨g, args.toArray, fun w => ?_, hE.2⟩⟩
            have hf : α.eval (.func g) = .func (.func g) #[] #[] := rfl
            generalize α.eval = ρ at hx hf
            have hcf := hE.1 args.toArray w
            simp [execOp, ho, resolve, hcal, hx, hf, invoke, go_sem, hcf]
          · cases hr
        · cases hr
      · cases hr
    | make t ks ps v' =>
      simp only at hr
      split at hr
      · rename_i t' qs ho
        split at hr
        · rename_i ht
          cases hr
          obtain ⟨rfl, hk⟩ := ht
          have hx := agg_inj (hc (.agg (qs.toList.map fun q => α.eval q.2).toArray, .agg ps.toArray) (List.mem_singleton.2 rfl))
          have hz := zip_eq hk (List.toArray_inj hx)
          refine .inl ⟨rfl, nin hl (fun _ _ _ _ h => by cases h), .inl fun w _ => ?_⟩
          have g := hE w
          rw [← hz] at g
          simp [execOp, ho, g]
        · cases hr
      · cases hr
    | new t zs =>
      simp only at hr
      split at hr
      · rename_i t' ho
        split at hr
        · rename_i ht
          cases hr
          subst ht
          refine .inr (.inl ⟨zs, t', rfl, fun w hb => ?_⟩)
          have g := hE w
          rw [hb]
          simp [execOp, ho, g]
        · cases hr
      · cases hr
    | row t e n ks ps zs =>
      simp only at hr
      split at hr
      · rename_i t' n' qs ho
        split at hr
        · rename_i ht
          cases hr
          obtain ⟨rfl, rfl, hk⟩ := ht
          have hx := agg_inj (hc (.agg (qs.toList.map fun q => α.eval q.2).toArray, .agg ps.toArray) (List.mem_singleton.2 rfl))
          have hz := zip_eq hk (List.toArray_inj hx)
          refine .inr (.inl ⟨zs, e, rfl, fun w hb => ?_⟩)
          have g := hE w
          rw [← hz] at g
          rw [hb]
          simp [execOp, ho, g]
        · cases hr
      · cases hr
    | put t g x vs =>
      simp only at hr
      split at hr
      · rename_i t' xa xv ho
        split at hr
        · rename_i ht
          cases hr
          subst ht
          have hx := hc (α.eval xa, .pointer (some ⟨blk om β g, 0, none⟩)) (by simp)
          have hy := hc (α.eval xv, x) (by simp)
          simp only at hx hy
          refine .inr (.inr ⟨t', g, x, vs, rfl, rfl, fun w zs hzl hh => ?_⟩)
          have g1 := hE _ w zs hzl hh
          simp [execOp, ho, hx, hy, g1]
        · cases hr
      · cases hr
    | gen xs v' =>
      simp only at hr
      cases hr
      have hx := agg_inj (hc (.agg (o.op.operands.toList.map α.eval).toArray, .agg xs.toArray) (List.mem_singleton.2 rfl))
      exact .inl ⟨rfl, nin hl (fun _ _ _ _ h => by cases h), .inl fun w hw => hE o hi α.eval (List.toArray_inj hx) w hw⟩

theorem same_eval (G : Set P om tab ops a0 S B0 w0 olds) (h : Inv P om tab ops a0 S B0 w0 olds β L a w) {i : Nat} {o : Oper} (hi : ops[i]? = some o) (hdep : ∀ j, waits o j = true → L j = true) {d : Tmp} (hd : d ∈ o.looksAt ops) :
    a.eval (.tmp d) = (planD P om tab ops a0 β i).1.eval (.tmp d) := by
  have hlt : i < ops.size := (Array.getElem?_eq_some_iff.1 hi).1
  have hw := (formed_op G.F hi).2 d hd
  rw [h.t d (fun j hj => hdep j (hw j hj).2), plan_eval (G.pl β) (ops.size - i) i (by omega) (fun j hj => (hw j hj).1)]
theorem same_op (G : Set P om tab ops a0 S B0 w0 olds) (h : Inv P om tab ops a0 S B0 w0 olds β L a w) {i : Nat} {o : Oper} (hi : ops[i]? = some o) (hdep : ∀ j, waits o j = true → L j = true) :
    execOp a.eval o = execOp (planD P om tab ops a0 β i).1.eval o :=
  execOp_congr o (fun cs b => Region.noSelect_spec (formed_sel G.F).2 i o cs b hi) fun x hx => by
    cases x with
    | tmp d => exact same_eval G h hi hdep (List.mem_append_left _ (List.mem_filterMap.2 ⟨.tmp d, by simpa using hx, rfl⟩))
    | _ => rfl
theorem same_wanted (G : Set P om tab ops a0 S B0 w0 olds) (h : Inv P om tab ops a0 S B0 w0 olds β L a w) {i : Nat} {o : Oper} (hi : ops[i]? = some o) (hdep : ∀ j, waits o j = true → L j = true) :
    Region.wanted o (yielded ops a.tmps) = Region.wanted o (yielded ops (planD P om tab ops a0 β i).1.tmps) := by
  have hlt : i < ops.size := (Array.getElem?_eq_some_iff.1 hi).1
  unfold Region.wanted
  cases hg : o.guard with
  | none => rfl
  | some gw =>
    obtain ⟨g, want⟩ := gw
    have hy : yielded ops a.tmps g = yielded ops (planD P om tab ops a0 β i).1.tmps g := by
      unfold yielded
      cases ht : (ops[g]?).bind (·.dst) with
      | none => rfl
      | some t =>
        have h1 := same_eval G h hi hdep (d := t) (List.mem_append_right _ (by simp [hg, ht]))
        have hz : a.tmps.size = (planD P om tab ops a0 β i).1.tmps.size := by rw [h.z, plan_size (G.pl β) i (by omega)]
        simp only [Option.bind_some]
        unfold Act.eval at h1
        simp only [Array.getD_eq_getD_getElem?] at h1
        by_cases hlt2 : t < a.tmps.size
        · rw [Array.getElem?_eq_getElem hlt2, Array.getElem?_eq_getElem (Nat.lt_of_lt_of_eq hlt2 hz)] at h1 ⊢
          simp only [Option.getD_some] at h1
          rw [h1]
        · rw [Array.getElem?_eq_none (Nat.not_lt.1 hlt2), Array.getElem?_eq_none (Nat.le_trans (Nat.le_of_eq hz.symm) (Nat.not_lt.1 hlt2))]
    simp only [hy]

theorem Inv.next (G : Set P om tab ops a0 S B0 w0 olds) {Q : Exit → Act → World → Prop} {i : Nat} {o : Oper} (hi : ops[i]? = some o) (hL : L i = false) (hdep : ∀ j, waits o j = true → L j = true) (h : ∃ β, Inv P om tab ops a0 S B0 w0 olds β L a w) :
    if Region.wanted o (yielded ops a.tmps) = true then o.wp P a w (fun a' w' => ∃ β, Inv P om tab ops a0 S B0 w0 olds β (fun j => j == i || L j) a' w') Q else ∃ β, Inv P om tab ops a0 S B0 w0 olds β (fun j => j == i || L j) (a.put o.dst undef) w := by
  have hlt : i < ops.size := (Array.getElem?_eq_some_iff.1 hi).1
  obtain ⟨β0, h0⟩ := h
  have h1 := h0.turn G hL w.heap.size
  generalize hβ : (fun j => if j = i then w.heap.size else β0 j) = β at h1
  have hbi : β i = w.heap.size := by rw [← hβ]; simp
  obtain ⟨v, hv, hmore, hcase⟩ := plan_step (G.pl β) hi
  rw [same_wanted G h1 hi hdep]
  rcases hcase with ⟨hw, cs, hr, hcs⟩ | ⟨hw, hl, rfl⟩
  · rw [if_pos hw]
    have hc : ∀ c ∈ cs, c.1 = c.2 := fun c hc => Takes.all_eq (G.cs β) c (plan_more (G.pl β) (ops.size - (i + 1)) (i + 1) (by omega) c (hcs c hc))
    unfold Oper.wp
    rw [same_op G h1 hi hdep]
    rcases res_run G.ok hi hr hc with ⟨hn, hp, hval | ⟨f, args, hrun, hcall⟩⟩ | ⟨zs, e, hn, hrun⟩ | ⟨t, g, x, vs, hl, rfl, hrun⟩
    · rw [hval w h1.s]
      exact ⟨β, h1.quiet G hi hdep hv hn hp (Below.refl _ _)⟩
    · rw [hrun w]
      simp only [Oper.upon]
      refine (hcall w h1.s).mono fun e w' he => ?_
      obtain ⟨rfl, hb⟩ := he
      exact ⟨β, h1.quiet G hi hdep hv hn hp hb⟩
    · rw [hrun w hbi]
      exact ⟨β, h1.made G hi hL hdep hv hn hbi⟩
    · obtain ⟨⟨zs, hz, hh⟩, h2⟩ := h1.stored G hi hdep hv hl
      rw [hrun w zs hz hh]
      exact ⟨β, h2⟩
  · rw [hw, if_neg (by simp)]
    exact ⟨β, h1.quiet G hi hdep hv (by rw [hl]; rfl) (fun g => by unfold into; rw [hl]) (Below.refl _ _)⟩

/-- The region, once for all orders. What the new blocks hold: 'nw'; what the old ones hold: 'ol'. -/
theorem region {id : Nat} {Q : Exit → Act → World → Prop} (hm : P.follows .mixedOrders = true) (G : Set P om tab ops a0 S B0 w0 olds) (h0 : S w0) (hd : w0 = w.drew)
    (hol : ∀ p zs, (p, zs) ∈ olds → Holds (om p) zs w0)
    (hend : ∀ β w', S w' → w0.heap.size ≤ w'.heap.size → Below B0 w0 w' →
      (∀ i zs, newOf (look tab i) = some zs → w0.heap.size ≤ β i ∧ β i < w'.heap.size ∧ Holds (β i) (cur tab (fun _ => true) (.own i) zs) w') →
      (∀ i j zi zj, newOf (look tab i) = some zi → newOf (look tab j) = some zj → i ≠ j → β i ≠ β j) →
      (∀ p zs, (p, zs) ∈ olds → Holds (om p) (cur tab (fun _ => true) (.old p) zs) w') → Q .normal (fin P om tab ops a0 β) w') : (Code.region id ops true).wp P Q a0 w := by
  subst hd
  refine Takes.wp_region_inv hm (fun L a w' => ∃ β, Inv P om tab ops a0 S B0 w.drew olds β L a w') ?_ ?_ ?_ (formed_sel G.F).1
  · refine ⟨fun _ => 0, ⟨rfl, rfl, fun d hd => ?_, h0, Nat.le_refl _, Below.refl _ _, fun i zs _ h => (by cases h), fun i j zi zj _ _ h => (by cases h), fun p zs hp => ?_, fun i o j _ h => (by cases h)⟩⟩
    · have hno : ∀ j ∈ writers ops d, j < 0 := fun j hj => by cases hd j hj
      rw [← plan_eval (G.pl _) ops.size 0 (by omega) hno]
      rfl
    · have : cur tab (fun _ => false) (.old p) zs = zs := by
        unfold cur
        split <;> rfl
      rw [this]
      exact hol p zs hp
  · rintro L a w' i o hi hL hdep hI
    exact Inv.next G (Q := Q) hi hL (fun j hj => by obtain ⟨e, he, hb, rfl⟩ := waits_spec hj; exact hdep e he hb) hI
  · rintro L a w' hall ⟨β, h⟩
    have hcur : ∀ g zs, cur tab L g zs = cur tab (fun _ => true) g zs := fun g zs => by
      unfold cur
      split
      · rename_i k hk
        obtain ⟨e, he⟩ := puts_mem hk
        rw [hall k (tidy_lt G.ty he)]
      · rfl
    have hnew : ∀ i zs, newOf (look tab i) = some zs → L i = true := fun i zs hi => by
      cases hl : look tab i with
      | none => rw [hl] at hi; cases hi
      | some e =>
        obtain ⟨e', he⟩ := look_mem hl
        exact hall i (tidy_lt G.ty he)
    have hq := hend β w' h.s h.hz h.b (fun i zs hi => by rw [← hcur]; exact h.nw i zs hi (hnew i zs hi)) (fun i j zi zj hi hj hne => h.ne i j zi zj hi hj (hnew i zi hi) (hnew j zj hj) hne) (fun p zs hp => by rw [← hcur]; exact h.ol p zs hp)
    have ez : a.tmps.size = (fin P om tab ops a0 β).tmps.size := by rw [h.z]; exact (plan_size (G.pl β) ops.size (Nat.le_refl _)).symm
    have et : a.tmps = (fin P om tab ops a0 β).tmps := by
      refine Array.ext ez fun d h1 h2 => ?_
      have h3 := h.t d (fun j hj => by obtain ⟨o, ho, _⟩ := mem_writers.1 hj; exact hall j (Array.getElem?_eq_some_iff.1 ho).1)
      unfold Act.eval at h3
      simp only [Array.getD_eq_getD_getElem?] at h3
      rwa [Array.getElem?_eq_getElem h1, Array.getElem?_eq_getElem h2] at h3
    have ed : a.defers = (fin P om tab ops a0 β).defers := by rw [h.d]; exact (plan_defers (G.pl β) ops.size (Nat.le_refl _)).symm
    have : a = fin P om tab ops a0 β := by
      cases a
      generalize fin P om tab ops a0 β = b at et ed
      cases b
      simp only at et ed
      rw [et, ed]
    rw [this]
    exact hq

/-- What each operation has left in its slot, in the order of the text. -/
def trace (ops : Array Oper) (a : Act) (n : Nat) : List (Tmp × Value) := (List.range n).filterMap fun i => ((ops[i]?).bind (·.dst)).map fun d => (d, a.eval (.tmp d))
def puts (a : Act) (l : List (Tmp × Value)) : Act := l.foldl (fun a p => a.put (some p.1) p.2) a
theorem fin_puts (hF : formed ops a0.tmps.size = true) (h : (plan P om tab ops a0 β ops.size).isSome = true) : ∀ n, n ≤ ops.size → (planD P om tab ops a0 β n).1 = puts a0 (trace ops (fin P om tab ops a0 β) n)
  | 0, _ => rfl
  | n + 1, hn => by
    have hi := Array.getElem?_eq_getElem (show n < ops.size by omega)
    obtain ⟨v, h1, _⟩ := plan_step h hi
    rw [h1, fin_puts hF h n (by omega)]
    unfold trace puts
    rw [List.range_succ, List.filterMap_append, List.foldl_append]
    cases hd : (ops[n]'(by omega)).dst with
    | none => simp [hi, hd, Act.put]
    | some d =>
      have := fin_dst hF h hi h1 hd
      simp [hi, hd, this]

/-- The region, once for all orders; what is left in the slots as a list. -/
theorem region_puts {id : Nat} {Q : Exit → Act → World → Prop} (hm : P.follows .mixedOrders = true) (G : Set P om tab ops a0 S B0 w0 olds) (h0 : S w0) (hd : w0 = w.drew)
    (hol : ∀ p zs, (p, zs) ∈ olds → Holds (om p) zs w0) (vs : (Nat → Nat) → List (Tmp × Value)) (hvs : ∀ β, trace ops (fin P om tab ops a0 β) ops.size = vs β)
    (hend : ∀ β w', S w' → w0.heap.size ≤ w'.heap.size → Below B0 w0 w' →
      (∀ i zs, newOf (look tab i) = some zs → w0.heap.size ≤ β i ∧ β i < w'.heap.size ∧ Holds (β i) (cur tab (fun _ => true) (.own i) zs) w') →
      (∀ i j zi zj, newOf (look tab i) = some zi → newOf (look tab j) = some zj → i ≠ j → β i ≠ β j) →
      (∀ p zs, (p, zs) ∈ olds → Holds (om p) (cur tab (fun _ => true) (.old p) zs) w') → Q .normal (puts a0 (vs β)) w') : (Code.region id ops true).wp P Q a0 w :=
  region hm G h0 hd hol fun β w' g1 g2 g3 g4 g5 g6 => by
    have := hend β w' g1 g2 g3 g4 g5 g6
    rw [← hvs, ← fin_puts G.F (G.pl β) ops.size (Nat.le_refl _)] at this
    exact this
end
end Go.Free
