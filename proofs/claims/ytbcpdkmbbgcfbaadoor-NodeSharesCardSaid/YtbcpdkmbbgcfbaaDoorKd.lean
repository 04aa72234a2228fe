/- Machines that cut one chain, and who reads it: memory alone; what holds wherever one of them stands, whatever the others do. No condition. -/
import Derived.Test.YtbcpdkmbbgcfbaaDoorFb
namespace Go.Proofs.YtbcpdkmbbgcfbaaDoor
open Go.RowKit Go.Op
set_option maxRecDepth 100000

/-- At most so many asks. -/
def Pr.Le {α : Type} : Pr α → Nat → Prop
  | .ret _, _ => True
  | .ask _ _, 0 => False
  | .ask _ k, n + 1 => ∀ a, (k a).Le n
theorem Pr.Le.mono {α : Type} : ∀ {p : Pr α} {n k : Nat}, p.Le n → n ≤ k → p.Le k
  | .ret _, _, _, _, _ => trivial
  | .ask _ _, 0, _, h, _ => h.elim
  | .ask _ _, n + 1, 0, _, hk => by omega
  | .ask _ _, n + 1, k + 1, h, hk => fun a => (h a).mono (by omega)
theorem Pr.Le.bind {α β : Type} {f : α → Pr β} {k : Nat} (hf : ∀ a, (f a).Le k) : ∀ {p : Pr α} {n : Nat}, p.Le n → (p.bind f).Le (n + k)
  | .ret a, n, _ => (hf a).mono (by omega)
  | .ask _ _, 0, h => h.elim
  | .ask _ _, n + 1, h => by
    rw [show n + 1 + k = (n + k) + 1 by omega]
    exact fun a => Pr.Le.bind hf (h a)
theorem Pr.Le.map {α β : Type} {f : α → β} {p : Pr α} {n : Nat} (h : p.Le n) : (p.bind fun a => .ret (f a)).Le n := Pr.Le.bind (f := fun a => Pr.ret (f a)) (k := 0) (fun _ => trivial) h
theorem chain_le {σ : Type} {next : Int → Pr (Int × Int)} {c : Nat} (hn : ∀ k, (next k).Le c) (f : σ → Sp → Int → Option (Bool × σ)) : ∀ (n : Nat) (h : Int) (x : σ), (chainP next f n h x).Le (n * (c + 1))
  | 0, _, _ => trivial
  | n + 1, h, x => by
    rw [chainP, show (n + 1) * (c + 1) = 1 + (c + n * (c + 1)) by rw [Nat.add_mul]; omega]
    refine Pr.Le.bind (fun a => ?_) (show (takeP h).Le 1 from fun _ => trivial)
    split
    · trivial
    · split
      · trivial
      · split
        · refine Pr.Le.bind (fun b => ?_) (hn _)
          split
          · split
            · trivial
            · exact chain_le hn f n _ _
          · split <;> trivial
        · trivial
theorem up_le (n : Nat) (hd v : Int) : (upP n hd v).Le (1 + n * 2) := by
  refine Pr.Le.bind (fun a => ?_) (show (wordP hd).Le 1 from fun _ => trivial)
  split
  · exact (chain_le (c := 1) (fun k => show (wordP k).Le 1 from fun _ => trivial) (upF v) n a.1 (sp0, 0)).map
  · trivial
theorem fell_le (n : Nat) (h : Int) : (fellP n h).Le (n * 3) := by
  rw [fellP]
  split
  · trivial
  · refine (chain_le (c := 2) (fun k => ?_) fellF n h ([], 0)).map
    show (takenP k).Le 2
    intro a
    dsimp only
    split
    · intro x
      dsimp only
      split <;> trivial
    · trivial
theorem cut_le (n : Nat) (hd v : Int) : (cutP n hd v).Le (1 + n * 2 + n * 3) := by
  refine Pr.Le.bind (fun o => ?_) (up_le n hd v)
  unfold cutQ
  split
  · trivial
  · split
    · split
      · trivial
      · exact (fell_le n _).map
    · trivial
/-- What a machine keeps to. -/
structure Ru (α σ : Type) where
  rely : σ → σ → Prop
  guar : σ → σ → Prop
  fin : α → σ → Prop
/-- It keeps to it from here on. -/
def Og {α σ : Type} (rep : Nat → M → σ → Prop) (r : Ru α σ) : Pr α → σ → Prop
  | .ret a, s => ∀ s2, r.rely s s2 → r.fin a s2
  | .ask q k, s => ∀ s2, r.rely s s2 → ∀ j m, rep j m s2 → ∃ s3, rep (j + 1) (q.on m).1 s3 ∧ r.guar s2 s3 ∧ Og rep r (k (q.on m).2) s3
theorem Og.others {α σ : Type} {rep : Nat → M → σ → Prop} {r : Ru α σ} (ht : ∀ s1 s2 s3, r.rely s1 s2 → r.rely s2 s3 → r.rely s1 s3) : ∀ (p : Pr α) {s s2 : σ}, Og rep r p s → r.rely s s2 → Og rep r p s2
  | .ret _, _, _, h, h2 => fun s3 h3 => h s3 (ht _ _ _ h2 h3)
  | .ask _ _, _, _, h, h2 => fun s3 h3 => h s3 (ht _ _ _ h2 h3)
abbrev Ow := Nat → Option Nat
def nxt (l : List (Int × Rv × Int)) (i : Nat) : Int := match l[i + 1]? with
  | some y => y.1
  | none => 0
/-- A chain, and who took which prev. -/
structure Yo (m0 : M) (l : List (Int × Rv × Int)) (hd : Int) (ix : Nat → Nat) (C : Int) (j : Nat) (m : M) (ow : Ow) : Prop where
  prev : ∀ (i : Nat) (x : Int × Rv × Int), l[i]? = some x → m.look x.2.2 = some (.word (if ow i = none then nxt l i else 0))
  own : ∀ (i o : Nat), ow i = some o → ix o ≤ i ∧ i + 1 < l.length
  same : ∀ k, k ∉ prevs l → m.look k = m0.look k
  cnt : m.count ≤ C + (j : Int)
/-- What is known of the chain. -/
structure Base (m0 : M) (l : List (Int × Rv × Int)) (hd : Int) : Prop where
  ch : Ch m0 (topOf l) l
  hw : m0.look hd = some (.word (topOf l))
  nd : (flat l).Nodup
  hdf : hd ∉ flat l
  len : l.length ≤ 40
theorem Base.age {m0 : M} {l : List (Int × Rv × Int)} {hd : Int} (b : Base m0 l hd) {ix : Nat → Nat} {C : Int} {j : Nat} {m : M} {ow : Ow} (y : Yo m0 l hd ix C j m ow) {x : Int × Rv × Int} (hx : x ∈ l) : m.look x.1 = some (.blk (.age x.2.1 x.2.2) .nil) := by
  have h1 := (b.ch.age x hx).1
  rw [y.same, h1]
  exact b.ch.not_prev fun z e => by rw [h1] at e; cases e
theorem Base.word {m0 : M} {l : List (Int × Rv × Int)} {hd : Int} (b : Base m0 l hd) {ix : Nat → Nat} {C : Int} {j : Nat} {m : M} {ow : Ow} (y : Yo m0 l hd ix C j m ow) : m.look hd = some (.word (topOf l)) := by
  rw [y.same _ (fun e => b.hdf (prevs_flat e)), b.hw]
theorem Base.nz {m0 : M} {l : List (Int × Rv × Int)} {hd : Int} (b : Base m0 l hd) : ∀ x, x ∈ l → x.1 ≠ 0 := b.ch.nz
theorem nxt_zero {m0 : M} {l : List (Int × Rv × Int)} {hd : Int} (b : Base m0 l hd) {i : Nat} (h : nxt l i = 0) : l.length ≤ i + 1 := by
  unfold nxt at h
  split at h
  · rename_i y hy
    exact absurd h (b.nz y (List.mem_of_getElem? hy))
  · rename_i hy
    exact List.getElem?_eq_none_iff.1 hy
theorem nxt_some {l : List (Int × Rv × Int)} {i : Nat} {y : Int × Rv × Int} (h : l[i + 1]? = some y) : nxt l i = y.1 := by
  unfold nxt
  rw [h]
theorem Yo.ask {m0 : M} {l : List (Int × Rv × Int)} {hd : Int} {ix : Nat → Nat} {C : Int} {j : Nat} {m : M} {ow : Ow} (y : Yo m0 l hd ix C j m ow) : Yo m0 l hd ix C (j + 1) m.ask ow :=
  ⟨fun i x hx => by rw [look_ask]; exact y.prev i x hx, y.own, fun k hk => by rw [look_ask]; exact y.same k hk, by have := y.cnt; have e : m.ask.count = m.count + 1 := rfl; push_cast; omega⟩
theorem prev_unlike {l : List (Int × Rv × Int)} (hn : (flat l).Nodup) : ∀ {i k : Nat} {x z : Int × Rv × Int}, l[i]? = some x → l[k]? = some z → x.2.2 = z.2.2 → i = k := fun {i k x z} hx hz e => by
  have h := prevs_nodup hn
  have h1 : (prevs l)[i]? = some x.2.2 := by unfold prevs; rw [List.getElem?_map, hx]; rfl
  have h2 : (prevs l)[k]? = some x.2.2 := by unfold prevs; rw [List.getElem?_map, hz, e]; rfl
  exact (List.getElem?_inj (List.getElem?_eq_some_iff.1 h1).1 h).1 (h1.trans h2.symm)
/-- A prev is taken. -/
theorem Yo.take {m0 : M} {l : List (Int × Rv × Int)} {hd : Int} (b : Base m0 l hd) {ix : Nat → Nat} {C : Int} {j : Nat} {m : M} {ow : Ow} (y : Yo m0 l hd ix C j m ow) {i k : Nat} {x : Int × Rv × Int} (hx : l[i]? = some x) (h0 : ow i = none) (hi : i + 1 < l.length) (hk : ix k ≤ i) :
    ∃ m', m.swap x.2.2 (nxt l i) 0 = (m', true, 0) ∧ Yo m0 l hd ix C (j + 1) m' (fun t => if t = i then some k else ow t) := by
  have hp := y.prev i x hx
  rw [if_pos h0] at hp
  obtain ⟨m', e1, e2, e3, e4, e5, e6⟩ := swap_yes (n := 0) hp
  refine ⟨m', e1, fun t z hz => ?_, fun t o ho => ?_, fun q hq => ?_, by rw [e6]; have := y.cnt; push_cast; omega⟩
  · rw [e2]
    by_cases e : t = i
    · subst e
      rw [hx] at hz
      cases hz
      rw [if_pos rfl, if_pos rfl, if_neg (by simp)]
    · rw [if_neg (fun e2 => e (prev_unlike b.nd hz hx e2)), if_neg e]
      exact y.prev t z hz
  · by_cases e : t = i
    · rw [if_pos e] at ho
      cases ho
      subst e
      exact ⟨hk, hi⟩
    · rw [if_neg e] at ho
      exact y.own t o ho
  · rw [e2, if_neg, y.same q hq]
    intro e
    exact hq (by rw [e]; exact List.mem_map.2 ⟨x, List.mem_of_getElem? hx, rfl⟩)
/-- What others may do, and a machine may. -/
def relyC (k : Nat) (s s2 : Ow) : Prop := ∀ i, (s i ≠ none → s2 i = s i) ∧ (s2 i = some k → s i = some k)
def guarC (k : Nat) (s s2 : Ow) : Prop := ∀ i, s2 i = s i ∨ (s i = none ∧ s2 i = some k)
theorem relyC.refl (k : Nat) (s : Ow) : relyC k s s := fun _ => ⟨fun _ => rfl, id⟩
theorem relyC.trans (k : Nat) (s1 s2 s3 : Ow) (h : relyC k s1 s2) (h2 : relyC k s2 s3) : relyC k s1 s3 := fun i =>
  ⟨fun h0 => ((h2 i).1 (by rw [(h i).1 h0]; exact h0)).trans ((h i).1 h0), fun e => (h i).2 ((h2 i).2 e)⟩
theorem guarC.rely {k j : Nat} (hkj : j ≠ k) {s s2 : Ow} (h : guarC k s s2) : relyC j s s2 := fun i =>
  ⟨fun h0 => (h i).elim id fun e => absurd e.1 h0, fun e => (h i).elim (fun e2 => e2 ▸ e) fun e2 => by rw [e2.2] at e; cases e; exact absurd rfl hkj⟩
theorem guarC.refl (k : Nat) (s : Ow) : guarC k s s := fun _ => .inl rfl
theorem relyC.none {k : Nat} {s s2 : Ow} (h : relyC k s s2) {i : Nat} (h0 : s i ≠ none) : s2 i ≠ none := by rw [(h i).1 h0]; exact h0
theorem relyC.mine {k : Nat} {s s2 : Ow} (h : relyC k s s2) (i : Nat) : s2 i = some k ↔ s i = some k :=
  ⟨(h i).2, fun e => by rw [(h i).1 (by rw [e]; simp), e]⟩
/-- Where a version's ages begin. -/
structure IxOf (l : List (Int × Rv × Int)) (v : Int) (i0 : Nat) : Prop where
  lt : ∀ (j : Nat) (x : Int × Rv × Int), j < i0 → l[j]? = some x → ¬ x.2.1.ver ≤ v
  at_ : ∀ x, l[i0]? = some x → x.2.1.ver ≤ v
  le : i0 ≤ l.length
section
variable {m0 : M} {l : List (Int × Rv × Int)} {hd : Int} {ix : Nat → Nat} {C : Int} {α : Type} {r : Ru α Ow} {k : Nat}
/-- Along the chain up to a version. -/
theorem og_up (b : Base m0 l hd) (hrl : ∀ s s2, r.rely s s2 → relyC k s s2) (hrr : ∀ s, r.rely s s) (hrt : ∀ s1 s2 s3, r.rely s1 s2 → r.rely s2 s3 → r.rely s1 s3) (hgr : ∀ s, r.guar s s) {v : Int} {i0 : Nat} (hv : IxOf l v i0) (F : Option (Bool × (Sp × Int)) → Pr α) :
    ∀ (n i : Nat) (x : Int × Rv × Int) (s : Ow), l[i]? = some x → i ≤ i0 → l.length - i ≤ n →
      (∀ y, l[i0]? = some y → ∀ s2, r.rely s s2 → Og (Yo m0 l hd ix C) r (F (some (true, (⟨y.1, ⟨y.2.1, y.2.2⟩⟩, 0)))) s2) →
      (∀ s2, r.rely s s2 → (i0 = l.length ∨ ∃ (j o : Nat), j < i0 ∧ s2 j = some o ∧ ix o ≤ j) → Og (Yo m0 l hd ix C) r (F (some (false, (sp0, 0)))) s2) →
      Og (Yo m0 l hd ix C) r ((chainP wordP (upF v) n x.1 (sp0, 0)).bind F) s
  | 0, i, x, s, hx, _, hn, _, _ => by
    have := (List.getElem?_eq_some_iff.1 hx).1
    omega
  | n + 1, i, x, s, hx, hi, hn, hA, hB => by
    have hil := (List.getElem?_eq_some_iff.1 hx).1
    show Og (Yo m0 l hd ix C) r (.ask (.load x.1) _) s
    intro s2 h2 j m hy
    have hl := look_load (b.age hy (List.mem_of_getElem? hx))
    refine ⟨s2, ?_, hgr s2, ?_⟩
    · show Yo m0 l hd ix C (j + 1) (m.load x.1).1 s2
      rw [hl]
      exact hy.ask
    have ha : heldA ((Qn.load x.1).on m).2 = (⟨x.2.1, x.2.2⟩, 0) := by
      show heldA ⟨(m.load x.1).2.1, 0, false, (m.load x.1).2.2⟩ = _
      rw [hl]
      rfl
    show Og (Yo m0 l hd ix C) r (((Pr.ret (heldA ((Qn.load x.1).on m).2)).bind _).bind F) s2
    rw [ha]
    by_cases hvx : x.2.1.ver ≤ v
    · have hf : upF v (sp0, 0) ⟨x.1, ⟨x.2.1, x.2.2⟩⟩ 0 = some (false, (⟨x.1, ⟨x.2.1, x.2.2⟩⟩, 0)) := by simp [upF, hvx]
      have hii : i = i0 := by
        rcases Nat.lt_or_ge i i0 with h | h
        · exact absurd hvx (hv.lt i x h hx)
        · omega
      subst hii
      simp only [Pr.bind, hf, if_true]
      exact hA x hx s2 h2
    · have hf : upF v (sp0, 0) ⟨x.1, ⟨x.2.1, x.2.2⟩⟩ 0 = some (true, (sp0, 0)) := by simp [upF, hvx]
      have hii : i < i0 := by
        rcases Nat.lt_or_ge i i0 with h | h
        · exact h
        · have : i = i0 := by omega
          subst this
          exact absurd (hv.at_ x hx) hvx
      simp only [Pr.bind, hf, Bool.true_eq_false, if_false, if_true]
      show Og (Yo m0 l hd ix C) r (.ask (.word x.2.2) _) s2
      intro s3 h3 j3 m3 hy3
      have hw := look_word (hy3.prev i x hx)
      refine ⟨s3, ?_, hgr s3, ?_⟩
      · show Yo m0 l hd ix C (j3 + 1) (m3.word x.2.2).1 s3
        rw [hw]
        exact hy3.ask
      have h23 := hrt _ _ _ h2 h3
      have e1 : ((Qn.word x.2.2).on m3).2.n = (if s3 i = none then nxt l i else 0) := by
        show (m3.word x.2.2).2.1 = _
        rw [hw]
      have e2 : ((Qn.word x.2.2).on m3).2.err = 0 := by
        show (m3.word x.2.2).2.2 = _
        rw [hw]
      simp only [Pr.bind, e1, e2, if_true]
      by_cases h0 : s3 i = none
      · rw [if_pos h0]
        by_cases hz : nxt l i = 0
        · rw [if_pos hz]
          have hle := nxt_zero b hz
          exact hB s3 h23 (.inl (by have := hv.le; omega))
        · rw [if_neg hz]
          obtain ⟨y, hyy⟩ : ∃ y, l[i + 1]? = some y := by
            cases hc : l[i + 1]? with
            | some y => exact ⟨y, rfl⟩
            | none => unfold nxt at hz; rw [hc] at hz; exact absurd rfl hz
          rw [nxt_some hyy]
          exact og_up b hrl hrr hrt hgr hv F n (i + 1) y s3 hyy (by omega) (by omega) (fun z hz2 s4 h4 => hA z hz2 s4 (hrt _ _ _ h23 h4)) (fun s4 h4 hor => hB s4 (hrt _ _ _ h23 h4) hor)
      · rw [if_neg h0, if_pos rfl]
        obtain ⟨o, ho⟩ := Option.ne_none_iff_exists'.1 h0
        exact hB s3 h23 (.inr ⟨i, o, hii, ho, (hy3.own i o ho).1⟩)
theorem own_end {i0 i : Nat} {s s2 : Ow} (h : relyC k s s2) (hs : ∀ t, s t = some k ↔ i0 ≤ t ∧ t < i) : ∀ t, s2 t = some k ↔ i0 ≤ t ∧ t < i := fun t => (h.mine t).trans (hs t)
theorem flat_snoc {i0 i : Nat} {x : Int × Rv × Int} (hx : l[i]? = some x) (hi : i0 ≤ i) : flat ((l.drop i0).take (i - i0)) ++ [x.1, x.2.2] = flat ((l.drop i0).take (i + 1 - i0)) := by
  rw [show i + 1 - i0 = (i - i0) + 1 by omega, List.take_add_one]
  have e : (l.drop i0)[i - i0]? = some x := by rw [List.getElem?_drop, show i0 + (i - i0) = i by omega, hx]
  rw [e]
  show _ = ((l.drop i0).take (i - i0) ++ [x]).flatMap _
  rw [List.flatMap_append]
  rfl
/-- Along the chain, taken. -/
theorem og_fell (b : Base m0 l hd) (hrl : ∀ s s2, r.rely s s2 → relyC k s s2) (hrt : ∀ s1 s2 s3, r.rely s1 s2 → r.rely s2 s3 → r.rely s1 s3) (hgr : ∀ s s2, guarC k s s2 → r.guar s s2) (hrr : ∀ s, r.rely s s) {i0 : Nat} (hk : ix k = i0) (F : Option (Bool × (List Int × Int)) → Pr α) :
    ∀ (n i : Nat) (x : Int × Rv × Int) (s : Ow), l[i]? = some x → i0 ≤ i → l.length - i ≤ n → (∀ t, s t = some k ↔ i0 ≤ t ∧ t < i) →
      (∀ (e : Nat) (s2 : Ow), i ≤ e → e < l.length → (∀ t, s2 t = some k ↔ i0 ≤ t ∧ t < e) → (s2 e ≠ none ∨ e + 1 = l.length) → Og (Yo m0 l hd ix C) r (F (some (false, (flat ((l.drop i0).take (e + 1 - i0)), 0)))) s2) →
      Og (Yo m0 l hd ix C) r ((chainP takenP fellF n x.1 (flat ((l.drop i0).take (i - i0)), 0)).bind F) s
  | 0, i, x, s, hx, _, hn, _, _ => by
    have := (List.getElem?_eq_some_iff.1 hx).1
    omega
  | n + 1, i, x, s, hx, hi, hn, hs, hC => by
    have hil := (List.getElem?_eq_some_iff.1 hx).1
    have hlen := b.len
    show Og (Yo m0 l hd ix C) r (.ask (.load x.1) _) s
    intro s2 h2 j m hy
    have hl := look_load (b.age hy (List.mem_of_getElem? hx))
    refine ⟨s2, ?_, hgr s2 s2 (guarC.refl k s2), ?_⟩
    · show Yo m0 l hd ix C (j + 1) (m.load x.1).1 s2
      rw [hl]
      exact hy.ask
    have ha : heldA ((Qn.load x.1).on m).2 = (⟨x.2.1, x.2.2⟩, 0) := by
      show heldA ⟨(m.load x.1).2.1, 0, false, (m.load x.1).2.2⟩ = _
      rw [hl]
      rfl
    show Og (Yo m0 l hd ix C) r (((Pr.ret (heldA ((Qn.load x.1).on m).2)).bind _).bind F) s2
    rw [ha]
    have hfl := flat_length ((l.drop i0).take (i - i0))
    have htl := List.length_take (i := i - i0) (l := l.drop i0)
    have hdl := List.length_drop (i := i0) (l := l)
    have hf : fellF (flat ((l.drop i0).take (i - i0)), 0) ⟨x.1, ⟨x.2.1, x.2.2⟩⟩ 0 = some (true, (flat ((l.drop i0).take (i + 1 - i0)), 0)) := by
      simp only [fellF, if_true]
      rw [if_pos (by omega), flat_snoc hx hi]
    have hr2 := hrl _ _ h2
    simp only [Pr.bind, hf, Bool.true_eq_false, if_false, if_true]
    show Og (Yo m0 l hd ix C) r (.ask (.word x.2.2) _) s2
    intro s3 h3 j3 m3 hy3
    have hr3 := relyC.trans k _ _ _ hr2 (hrl _ _ h3)
    have hs3 := own_end hr3 hs
    have hw := look_word (hy3.prev i x hx)
    refine ⟨s3, ?_, hgr s3 s3 (guarC.refl k s3), ?_⟩
    · show Yo m0 l hd ix C (j3 + 1) (m3.word x.2.2).1 s3
      rw [hw]
      exact hy3.ask
    have e1 : ((Qn.word x.2.2).on m3).2.n = (if s3 i = none then nxt l i else 0) := by
      show (m3.word x.2.2).2.1 = _
      rw [hw]
    have e2 : ((Qn.word x.2.2).on m3).2.err = 0 := by
      show (m3.word x.2.2).2.2 = _
      rw [hw]
    simp only [e1, e2]
    by_cases h0 : s3 i = none
    · rw [if_pos h0]
      by_cases hz : nxt l i = 0
      · have hle := nxt_zero b hz
        rw [hz]
        simp only [ne_eq, not_true_eq_false, and_false, if_false, Pr.bind, if_true]
        exact hC i s3 (Nat.le_refl _) hil hs3 (.inr (by omega))
      · obtain ⟨y, hyy⟩ : ∃ y, l[i + 1]? = some y := by
          cases hc : l[i + 1]? with
          | some y => exact ⟨y, rfl⟩
          | none => unfold nxt at hz; rw [hc] at hz; exact absurd rfl hz
        have hi1 := (List.getElem?_eq_some_iff.1 hyy).1
        rw [if_pos ⟨trivial, hz⟩]
        show Og (Yo m0 l hd ix C) r (.ask (.swap x.2.2 (nxt l i) 0) _) s3
        intro s4 h4 j4 m4 hy4
        have hr4 := hrl _ _ h4
        have hs4 := own_end hr4 hs3
        by_cases h04 : s4 i = none
        · obtain ⟨m5, e5, y5⟩ := hy4.take b (k := k) hx h04 hi1 (by rw [hk]; exact hi)
          refine ⟨_, (by show Yo m0 l hd ix C (j4 + 1) (m4.swap x.2.2 (nxt l i) 0).1 _; rw [e5]; exact y5), hgr _ _ fun t => ?_, ?_⟩
          · by_cases e : t = i
            · right
              rw [e]
              exact ⟨h04, by rw [if_pos rfl]⟩
            · exact .inl (by rw [if_neg e])
          · have e6 : ((Qn.swap x.2.2 (nxt l i) 0).on m4).2.ok = true := by
              show (m4.swap x.2.2 (nxt l i) 0).2.1 = _
              rw [e5]
            simp only [e6, if_true, Pr.bind, if_neg hz]
            rw [nxt_some hyy]
            exact og_fell b hrl hrt hgr hrr hk F n (i + 1) y _ hyy (by omega) (by omega) (fun t => by
              by_cases e : t = i
              · rw [if_pos e]
                constructor
                · intro _; omega
                · intro _; rfl
              · rw [if_neg e, hs4]
                omega) fun e s2 he => hC e s2 (by omega)
        · have hp := hy4.prev i x hx
          rw [if_neg h04] at hp
          have e5 := swap_no (o := nxt l i) (n := 0) hp (fun e => hz e.symm)
          refine ⟨s4, (by show Yo m0 l hd ix C (j4 + 1) (m4.swap x.2.2 (nxt l i) 0).1 _; rw [e5]; exact hy4.ask), hgr _ _ (guarC.refl k s4), ?_⟩
          have e6 : ((Qn.swap x.2.2 (nxt l i) 0).on m4).2.ok = false := by
            show (m4.swap x.2.2 (nxt l i) 0).2.1 = _
            rw [e5]
          have e7 : ((Qn.swap x.2.2 (nxt l i) 0).on m4).2.err = 0 := by
            show (m4.swap x.2.2 (nxt l i) 0).2.2 = _
            rw [e5]
          simp only [e6, e7, Bool.false_eq_true, if_false, Pr.bind, if_true]
          exact hC i s4 (Nat.le_refl _) hil hs4 (.inl h04)
    · rw [if_neg h0]
      simp only [ne_eq, not_true_eq_false, and_false, if_false, Pr.bind, if_true]
      exact hC i s3 (Nat.le_refl _) hil hs3 (.inl h0)
/-- What a cut comes to. -/
def CutFin (l : List (Int × Rv × Int)) (ix : Nat → Nat) (k : Nat) (o : Option (List Int × Int)) (s : Ow) : Prop :=
  ∃ cs, o = some (cs, 0) ∧ ((cs = [] ∧ (∀ i, s i ≠ some k) ∧ (ix k = l.length ∨ ∃ j o, j < ix k ∧ s j = some o ∧ ix o ≤ j)) ∨
    ∃ e, ix k ≤ e ∧ e < l.length ∧ cs = flat ((l.drop (ix k + 1)).take (e - ix k)) ∧ (∀ t, s t = some k ↔ ix k ≤ t ∧ t < e) ∧ (s e ≠ none ∨ e + 1 = l.length))
theorem CutFin.rely {o : Option (List Int × Int)} {s s2 : Ow} (h : CutFin l ix k o s) (hr : relyC k s s2) : CutFin l ix k o s2 := by
  obtain ⟨cs, h1, h2⟩ := h
  refine ⟨cs, h1, h2.imp (fun ⟨q1, q2, q3⟩ => ⟨q1, fun i e => q2 i ((hr i).2 e), q3.imp id fun ⟨j, o, j1, j2, j3⟩ => ⟨j, o, j1, by rw [(hr j).1 (by rw [j2]; simp), j2], j3⟩⟩) fun ⟨e, q1, q2, q3, q4, q5⟩ => ⟨e, q1, q2, q3, own_end hr q4, q5.imp hr.none id⟩⟩
def cutR (l : List (Int × Rv × Int)) (ix : Nat → Nat) (k : Nat) : Ru (Option (List Int × Int)) Ow := ⟨relyC k, guarC k, CutFin l ix k⟩
theorem og_cut (b : Base m0 l hd) (h0 : l ≠ []) {v : Int} (hv : IxOf l v (ix k)) {s : Ow} (hs : ∀ i, s i ≠ some k) : Og (Yo m0 l hd ix C) (cutR l ix k) (cutP 40 hd v) s := by
  obtain ⟨x0, l', rfl⟩ : ∃ x0 l', l = x0 :: l' := by
    cases l with
    | nil => exact absurd rfl h0
    | cons x l' => exact ⟨x, l', rfl⟩
  show Og (Yo m0 (x0 :: l') hd ix C) _ (.ask (.word hd) _) s
  intro s2 h2 j m hy
  have hw := look_word (b.word hy)
  refine ⟨s2, ?_, guarC.refl k s2, ?_⟩
  · show Yo m0 (x0 :: l') hd ix C (j + 1) (m.word hd).1 s2
    rw [hw]
    exact hy.ask
  have e1 : ((Qn.word hd).on m).2.n = x0.1 := by
    show (m.word hd).2.1 = _
    rw [hw]
    rfl
  have e2 : ((Qn.word hd).on m).2.err = 0 := by
    show (m.word hd).2.2 = _
    rw [hw]
  simp only [Pr.bind, e1, e2, if_true]
  have assoc : ∀ {α β γ : Type} (p : Pr α) (f : α → Pr β) (g : β → Pr γ), (p.bind f).bind g = p.bind fun a => (f a).bind g := by
    intro α β γ p f g
    induction p with
    | ret a => rfl
    | ask q k ih => simp only [Pr.bind, ih]
  rw [assoc]
  have hlen := b.len
  have hs2 : ∀ i, s2 i ≠ some k := fun i e => hs i ((h2 i).2 e)
  refine og_up (k := k) b (r := cutR (x0 :: l') ix k) (fun _ _ h => h) (relyC.refl k) (relyC.trans k) (guarC.refl k) hv _ 40 0 x0 s2 rfl (Nat.zero_le _) (by omega) (fun y hyy s3 h3 => ?_) fun s3 h3 hor => ?_
  · simp only [Option.map_some, Pr.bind]
    have hi := (List.getElem?_eq_some_iff.1 hyy).1
    rw [cutQ_go (b.nz y (List.mem_of_getElem? hyy)), fellP, if_neg (b.nz y (List.mem_of_getElem? hyy)), assoc]
    have hs3 : ∀ t, s3 t = some k ↔ ix k ≤ t ∧ t < ix k := fun t => ⟨fun e => absurd ((h3 t).2 e) (hs2 t), fun e => by omega⟩
    have := og_fell (C := C) (k := k) b (r := cutR (x0 :: l') ix k) (fun _ _ h => h) (relyC.trans k) (fun _ _ h => h) (relyC.refl k) rfl (fun o => (Pr.ret (o.map Prod.snd)).bind fun o2 => .ret (cutF o2)) 40 (ix k) y s3 hyy (Nat.le_refl _) (by omega) hs3 (fun e s4 he1 he2 hown hend => by
      intro s5 h5
      refine ⟨flat (((x0 :: l').drop (ix k + 1)).take (e - ix k)), ?_, .inr ⟨e, he1, he2, rfl, own_end h5 hown, hend.imp h5.none id⟩⟩
      simp only [Option.map_some]
      have hne := drop_cons hyy
      rw [cutF_ok (by
        rw [flat_length, List.length_take, List.length_drop]
        omega)]
      rw [hne, show e + 1 - ix k = (e - ix k) + 1 by omega, List.take_succ_cons]
      rfl)
    rw [Nat.sub_self, List.take_zero] at this
    exact this
  · simp only [Option.map_some, Pr.bind]
    rw [cutQ_nil rfl]
    intro s4 h4
    exact ⟨[], rfl, .inl ⟨rfl, fun i e => hs2 i ((h3 i).2 ((h4 i).2 e)), hor.imp id fun ⟨j, o, j1, j2, j3⟩ => ⟨j, o, j1, by rw [(h4 j).1 (by rw [j2]; simp), j2], j3⟩⟩⟩
/-- Who reads. -/
def readR (l : List (Int × Rv × Int)) (v : Int) (k : Nat) : Ru (Option (Sp × Int)) Ow := ⟨relyC k, guarC k, fun o _ => o = some (foundS v l)⟩
theorem found_ix {v : Int} : ∀ {l : List (Int × Rv × Int)} {i0 : Nat}, IxOf l v i0 → (∀ y, l[i0]? = some y → foundS v l = (⟨y.1, ⟨y.2.1, y.2.2⟩⟩, 0)) ∧ (i0 = l.length → foundS v l = (sp0, 0))
  | [], i0, h => ⟨fun y hy => by simp at hy, fun _ => rfl⟩
  | x :: l, 0, h => ⟨fun y hy => by
      have := h.at_ y hy
      simp at hy
      subst hy
      rw [foundS, if_pos this], fun e => by simp at e⟩
  | x :: l, i0 + 1, h => by
    have h1 := h.lt 0 x (by omega) rfl
    obtain ⟨q1, q2⟩ := found_ix (l := l) (i0 := i0) (v := v) ⟨fun j y hj hy => h.lt (j + 1) y (by omega) (by simpa using hy), fun y hy => h.at_ y (by simpa using hy), by have := h.le; simp only [List.length_cons] at this; omega⟩
    rw [foundS, if_neg h1]
    exact ⟨fun y hy => q1 y (by simpa using hy), fun e => q2 (by simpa using e)⟩
theorem og_read (b : Base m0 l hd) (h0 : l ≠ []) {v : Int} {i0 : Nat} (hv : IxOf l v i0) (hix : ∀ o, o ≠ k → i0 ≤ ix o) {s : Ow} (hs : ∀ i, s i ≠ some k) : Og (Yo m0 l hd ix C) (readR l v k) (upP 40 hd v) s := by
  obtain ⟨x0, l', rfl⟩ : ∃ x0 l', l = x0 :: l' := by
    cases l with
    | nil => exact absurd rfl h0
    | cons x l' => exact ⟨x, l', rfl⟩
  show Og (Yo m0 (x0 :: l') hd ix C) _ (.ask (.word hd) _) s
  intro s2 h2 j m hy
  have hw := look_word (b.word hy)
  refine ⟨s2, ?_, guarC.refl k s2, ?_⟩
  · show Yo m0 (x0 :: l') hd ix C (j + 1) (m.word hd).1 s2
    rw [hw]
    exact hy.ask
  have e1 : ((Qn.word hd).on m).2.n = x0.1 := by
    show (m.word hd).2.1 = _
    rw [hw]
    rfl
  have e2 : ((Qn.word hd).on m).2.err = 0 := by
    show (m.word hd).2.2 = _
    rw [hw]
  simp only [Pr.bind, e1, e2, if_true]
  have hlen := b.len
  have hs2 : ∀ i, s2 i ≠ some k := fun i e => hs i ((h2 i).2 e)
  obtain ⟨f1, f2⟩ := found_ix hv
  refine og_up (k := k) b (r := readR (x0 :: l') v k) (fun _ _ h => h) (relyC.refl k) (relyC.trans k) (guarC.refl k) hv _ 40 0 x0 s2 rfl (Nat.zero_le _) (by omega) (fun y hyy s3 h3 => ?_) fun s3 h3 hor => ?_
  · intro s4 _
    show Option.map Prod.snd _ = _
    rw [f1 y hyy]
    rfl
  · intro s4 _
    show Option.map Prod.snd _ = _
    rcases hor with e | ⟨j, o, j1, j2, j3⟩
    · rw [f2 e]
      rfl
    · have : o ≠ k := fun e => hs2 j ((h3 j).2 (e ▸ j2))
      have := hix o this
      omega
end
end Go.Proofs.YtbcpdkmbbgcfbaaDoor
/- A row of machines; a step of one of them, whatever the others do. Conditions: at most 900000 asks. -/
namespace Go.Proofs.YtbcpdkmbbgcfbaaDoor
open Go.RowKit Go.Op
set_option maxRecDepth 100000

section
variable {w0 : World} {b c r : Nat} {G G' : List (Nat × List Value)} {w w' : World} {m m' : M} {L : List Mach}
/-- What a step comes to. -/
structure StepG {α : Type} (w0 : World) (b c r : Nat) (G : List (Nat × List Value)) (w : World) (L : List Mach) (i : Nat) (x : Mach) (R : List (Nat × List Value) → α → Value → Prop) (o : Option α × Pt × M) (e : Ending) (w' : World) (y : Mach) (G' : List (Nat × List Value)) : Prop where
  xb : y.xb = x.xb
  team : TeamE w0 b c r G' w' o.2.2 (L.set i y)
  but : But5 b c r x.xb x.t w w'
  row : Row2 w x.t y.t
  gro : Grow w G G'
  out : (∃ a, o.1 = some a ∧ e = .returned (.bool true) ∧ y.fin = true ∧ R G' a y.out ∧ y.s.place = o.2.1.place ∧ y.s.noted = o.2.1.noted) ∨ (o.1 = none ∧ e = .returned (.bool false) ∧ y.fin = false ∧ y.f = x.f ∧ y.out = x.out ∧ y.s.e = o.2.1)
theorem TeamE.stepG {α : Type} (h : TeamE w0 b c r G w m L) {i : Nat} {x : Mach} (hi : L[i]? = some x) (hfin : x.fin = false) {fk : FuncId} {caps : Array Value} (hf : x.f = .func (.func fk) #[] caps) (he : ∀ zs w, (callFunc fk zs).run Tryd.prog w = .ok (.enter fk zs) w)
    (R : List (Nat × List Value) → α → Value → Prop) (hR : ∀ G a v, R G a v → ∃ ty u, v = .iface ty u) (o : Option α × Pt × M) (hF : RunF x.s.fresh.e m o) (hc : o.2.2.count ≤ 900000)
    (hfn : ∀ w1, SysE w0 b c r x.xb 1 x.t G w1 m x.s.fresh.e → But x.xb w w1 → Calls Tryd.prog fk (#[.pointer (some ⟨x.xb, 1, none⟩)] ++ caps) w1 fun e w' => Ev w0 b c r x.xb 1 x.t G w1 R o e w') :
    Calls Tryd.prog 27 #[.pointer (some ⟨x.xb, 0, none⟩)] w fun e w' => ∃ y G', StepG w0 b c r G w L i x R o e w' y G' := by
  obtain ⟨m0, h1, h2, h3, h4, h5, h6⟩ := h
  obtain ⟨i1, i2⟩ := h6 i x hi hfin
  have hM := h1.mac i x hi
  rw [hfin, hf] at hM
  have hfit : Fit x.s.fresh m0 := ⟨i2.ok, Nat.zero_le _, i2.len⟩
  refine (step_run hM (fun ov m' s' G' => m'.e = o.2.2 ∧ s'.e = o.2.1 ∧ m'.In G' ∧ s'.In G' ∧ Fit s' m' ∧ 0 ≤ m'.count ∧ match ov with
    | some v => ∃ a, o.1 = some a ∧ R G' a v
    | none => o.1 = none) he o.2.2.count (fun w1 hS hB => ?_)).mono ?_
  · have hE : SysE w0 b c r x.xb 1 x.t G w1 m x.s.fresh.e := ⟨m0, x.s.fresh, hS, h2, i1, hfit, h4, rfl⟩
    refine (hfn w1 hE hB).mono fun e w' hv => ?_
    rcases hv.cases with ⟨t', G', s', m', eo, rfl, ha⟩ | ⟨t', G', s', m', a, v, eo, rfl, hr, ha⟩
    · obtain ⟨m1, s1, q1, q2, q3, q4, rfl, rfl⟩ := ha.sys
      have e1 : m1.count = o.2.2.count := by rw [eo]; rfl
      refine ⟨.inr ⟨rfl, t', m1, s1, G', q1.less (by omega), ha.row, q4.pok (by omega), ?_, ha.gro, by rw [eo], by rw [eo], q2, q3, q4, by have := q4.ok.cnt; omega, by rw [eo]⟩, ha.but⟩
      have := hF.ext
      rw [eo] at this
      exact this
    · obtain ⟨m1, s1, q1, q2, q3, q4, rfl, rfl⟩ := ha.sys
      have e1 : m1.count = o.2.2.count := by rw [eo]; rfl
      obtain ⟨ty, u, rfl⟩ := hR _ a v hr
      refine ⟨.inl ⟨ty, u, rfl, ⟨t', m1, s1, G', q1.less (by omega), ha.row, q4.pok (by omega), ?_, ha.gro, by rw [eo], by rw [eo], q2, q3, q4, by have := q4.ok.cnt; omega, a, by rw [eo], hr⟩, ?_⟩, ha.but⟩
      · have := hF.ext
        rw [eo] at this
        exact this
      · have := hF.live (by rw [eo]; rfl)
        rw [eo] at this
        have e2 : s1.halted = false := this
        rw [← e2]
        exact q1.pt.cells.c6
  · rintro e w' ⟨t', m', s', G', hcs, hb, hr, hg⟩
    have hcn := hF.cnt
    have key : ∀ (y : Mach), y.xb = x.xb → y.t = t' → m'.e = o.2.2 → m'.In G' → Mac w0 b c r o.2.2.count G' y.xb y.t w' m' y.s y.f y.fin y.out → (y.fin = false → y.s.In G' ∧ Fit y.s m') → m'.Ok m'.count → 0 ≤ m'.count → TeamE w0 b c r G' w' o.2.2 (L.set i y) := fun y hy ht e1 e2 hm hq hok h0 => by
      have ec : o.2.2.count = m'.count := by rw [← e1]; rfl
      rw [ec] at hm
      refine ⟨m', h1.step hi hy hm hb (by rw [ht]; exact hr) hg, e2, h0, e1, hm.sys.rows.bare, fun j z hz hzf => ?_⟩
      rw [List.getElem?_set] at hz
      split at hz
      · split at hz
        · cases hz; exact hq hzf
        · cases hz
      · obtain ⟨z1, z2⟩ := h6 j z hz hzf
        have e3 : m0.count = m.count := by rw [← h4]; rfl
        exact ⟨z1.more hg.1, hok, z2.le, by have := z2.len; omega⟩
    rcases hcs with ⟨v, rfl, s1, ⟨f1, f2, f3, f4, f5, f6, a, f7, f8⟩, e8, e9, hM2⟩ | ⟨rfl, ⟨f1, f2, f3, f4, f5, f6, f7⟩, hM2⟩
    · exact ⟨⟨x.xb, t', s', .nilFunc, true, v⟩, G', rfl, key _ rfl rfl f1 f3 hM2 (fun e => (by cases e)) f5.ok f6, hb, hr, hg, .inl ⟨a, f7, rfl, rfl, f8, e8.trans (by rw [← f2]; rfl), e9.trans (by rw [← f2]; rfl)⟩⟩
    · exact ⟨⟨x.xb, t', s', x.f, false, x.out⟩, G', rfl, key _ rfl rfl f1 f3 (by rw [hf]; exact hM2) (fun _ => ⟨f4, f5⟩) f5.ok f6, hb, hr, hg, .inr ⟨f7, rfl, rfl, rfl, rfl, f2⟩⟩
end
def ptrs (L : List Mach) : List Value := L.map fun x => .pointer (some ⟨x.xb, 0, none⟩)
theorem ptrs_len (L : List Mach) : (ptrs L).length = L.length := by simp [ptrs]
theorem ptrs_set {L : List Mach} {i : Nat} {x y : Mach} (hi : L[i]? = some x) (h : y.xb = x.xb) : ptrs (L.set i y) = ptrs L := by
  unfold ptrs
  rw [List.map_set, h]
  exact set_val (by rw [List.getElem?_map, hi]; rfl)
theorem row_same {w w' : World} {B : Nat} {v : Value} {n : Nat} {xs : List Value} (h : w.ownsRow B 59 1 v n xs) (hk : ∀ k, v.ownBlock = some k → w'.heap[k]? = w.heap[k]?) : w'.ownsRow B 59 1 v n xs := by
  refine ⟨h.1, h.2.imp id ?_⟩
  rintro ⟨g, cap, cur, rfl, a, b, d⟩
  exact ⟨g, cap, cur, rfl, a, by rw [hk g rfl]; exact b, d⟩
theorem row_at {w : World} {B : Nat} {a : Option Addr} {n cp len : Nat} {l : List Value} (h : w.ownsRow B 59 1 (.slice a n cp) len l) {k : Nat} (hk : k < len) {u : Value} (hu : l[k]? = some u) : ∃ g, a = some ⟨g, 0, none⟩ ∧ w.cell? ⟨g, k, none⟩ = some u := by
  rcases h.2 with ⟨_, e⟩ | ⟨g, cap, cur, e, _⟩
  · omega
  · cases e
    have := World.ownsRow.cells h (g := g) rfl k u hu
    rw [add_off, Nat.zero_add] at this
    exact ⟨g, rfl, this⟩
theorem at_58 (g n c k : Nat) (h : k < n) (w : World) : (Instr.indexAt 58 (.slice (some ⟨g, 0, none⟩) n c) (.int .i64 (k : Int))).run Tryd.prog w = .ok (.pointer (some ⟨g, k, none⟩)) w := by
  have h1 : (k : Int) < (n : Int) := by omega
  go_simp
theorem info59 : (Tryd.prog.info? 59).map (fun i => (i.zero, i.size, i.bytes)) = some (some (.pointer none), 1, 8) := by kernel_rfl
theorem append_ptr {ops : Array Oper} {rest : List Oper} {o : Oper} {a : Act} {w : World} {Q : Exit → Act → World → Prop}
    (hg : o.guard = none) (s x : Operand) (hop : o.op = Op.call { callee := Callee.builtin Builtin.append, args := #[s, x], argTypes := #[58, 58] })
    (B : Nat) (v : Value) (l : List Value) (p : Nat) (hs : a.eval s = v) (hown : w.ownsRow B 59 1 v l.length l) (g c : Nat) (hx : a.eval x = .slice (some ⟨g, 0, none⟩) 1 c) (hc : w.cell? ⟨g, 0, none⟩ = some (.pointer (some ⟨p, 0, none⟩)))
    (hl : l.length ≤ 1000000) (hB : B ≤ w.heap.size)
    (hK : ∀ v' w', w'.ownsRow B 59 1 v' (l.length + 1) (l ++ [.pointer (some ⟨p, 0, none⟩)]) → w.grownBy w' v.ownBlock → (v'.ownBlock = v.ownBlock ∨ v'.ownBlock = some w.heap.size) → wpList Tryd.prog ops Q rest (a.put o.dst v') w') :
    wpList Tryd.prog ops Q (o :: rest) a w := by
  obtain ⟨i0, hi, hz0, hz1, hz2⟩ := info_parts info59
  refine wpList_append_own_at w hg s x 58 hop B 59 i0 (.pointer none) 1 8 Tryd.underlying58 hi hz0 hz1 hz2 rfl (by decide) v _ _ hs hown ⟨g, 0, none⟩ 1 c [.pointer (some ⟨p, 0, none⟩)] hx rfl ?_ (fun u hu => by simp at hu; subst hu; rfl) (by unfold maxLen; omega) (by omega) hB ?_
  · intro j u hu
    match j, hu with
    | 0, hu =>
      simp at hu
      subst hu
      exact hc
  · intro v' w' h1 h2 _ h4
    exact hK v' w' h1 h2 h4
/-- A row of machines. -/
structure Crew (w0 : World) (b c r : Nat) (G : List (Nat × List Value)) (w : World) (m : M) (L : List Mach) (rv : Value) : Prop where
  tm : TeamE w0 b c r G w m L
  row : w.ownsRow w0.heap.size 59 1 rv L.length (ptrs L)
  ro : ∀ k, rv.ownBlock = some k → Off k b c r w L ∧ LocM w0 b c r G w k
/-- A block of the law's own. -/
structure Mine (w0 : World) (b c r : Nat) (G : List (Nat × List Value)) (w : World) (L : List Mach) (rv : Value) (z : Nat) : Prop where
  loc : LocM w0 b c r G w z
  off : Off z b c r w L
  nr : rv.ownBlock ≠ some z
section
variable {w0 : World} {b c r : Nat} {G G' : List (Nat × List Value)} {w w' : World} {m m' : M} {L : List Mach} {rv : Value} {z : Nat}
theorem Crew.nil (h : HasE w0 b c r G w m) : Crew w0 b c r G w m [] (.slice none 0 0) := ⟨TeamE.nil h, World.ownsRow_nil _ _ _ _, fun k e => (by cases e)⟩
theorem LocM.mine0 (h : LocM w0 b c r G w z) : Mine w0 b c r G w [] (.slice none 0 0) z := ⟨h, ⟨h.lt, h.ne, fun i x hx => (by simp at hx)⟩, fun e => (by cases e)⟩
theorem Crew.later (h : Crew w0 b c r G w m L rv) (hb : Below w.heap.size w w') : Crew w0 b c r G w' m L rv :=
  ⟨h.tm.later hb, row_same h.row fun k e => hb.block k (h.ro k e).1.lt, fun k e => ⟨(h.ro k e).1.later hb.size, (h.ro k e).2.later hb.size (Grow.refl _ _)⟩⟩
theorem Mine.later (h : Mine w0 b c r G w L rv z) (hs : w.heap.size ≤ w'.heap.size) : Mine w0 b c r G w' L rv z := ⟨h.loc.later hs (Grow.refl _ _), h.off.later hs, h.nr⟩
/-- Memory is asked by others. -/
theorem Crew.mem (h : Crew w0 b c r G w m L rv) (k : HasE w0 b c r G' w' m') (hb : ButN [b, c, r] w.heap.size w w') (hg : Grow w G G') (hc : m.count ≤ m'.count ∨ ∀ (i : Nat) (x : Mach), L[i]? = some x → x.fin = false → (x.s.e.told.length : Int) ≤ m'.count) : Crew w0 b c r G' w' m' L rv :=
  ⟨h.tm.mem k hb hg hc, row_same h.row fun k e => by
    have o := (h.ro k e).1
    exact hb.block k o.lt (by have := o.m; simp; omega), fun k e => ⟨(h.ro k e).1.later hb.size, (h.ro k e).2.later hb.size hg⟩⟩
theorem Mine.mem (h : Mine w0 b c r G w L rv z) (hb : ButN [b, c, r] w.heap.size w w') (hg : Grow w G G') : Mine w0 b c r G' w' L rv z ∧ w'.heap[z]? = w.heap[z]? :=
  ⟨⟨h.loc.later hb.size hg, h.off.later hb.size, h.nr⟩, hb.block z h.loc.lt (by have := h.loc.ne; simp; omega)⟩
/-- A change of a block of the law's own. -/
theorem Crew.aside (h : Crew w0 b c r G w m L rv) (hk : But z w w') (hz : Mine w0 b c r G w L rv z) : Crew w0 b c r G w' m L rv :=
  ⟨h.tm.aside hk hz.loc hz.off, row_same h.row fun k e => hk.block k (h.ro k e).1.lt (fun e2 => hz.nr (e2 ▸ e)), fun k e => ⟨(h.ro k e).1.later hk.size, (h.ro k e).2.later hk.size (Grow.refl _ _)⟩⟩
theorem TeamE.grown (h : TeamE w0 b c r G w m L) {ro : Option Nat} (hg : w.grownBy w' ro) (hr : ∀ k, ro = some k → Off k b c r w L ∧ LocM w0 b c r G w k) : TeamE w0 b c r G w' m L := by
  cases ro with
  | none => exact h.later ⟨hg.os, hg.tape, hg.output, hg.size, fun k hk => hg.block k hk (fun e => (by cases e))⟩
  | some g => exact h.aside (z := g) ⟨hg.os, hg.tape, hg.output, hg.size, fun k hk hne => hg.block k hk (fun e => hne (by cases e; rfl))⟩ (hr g rfl).2 (hr g rfl).1
/-- One more machine. -/
theorem Crew.add {f rv' : Value} {w2 : World} (h : Crew w0 b c r G w m L rv) (hb : Below (w.alloc (machObj b f)).heap.size (w.alloc (machObj b f)) w2)
    (own : w'.ownsRow w0.heap.size 59 1 rv' (L.length + 1) (ptrs L ++ [.pointer (some ⟨w.heap.size, 0, none⟩)])) (hg : w2.grownBy w' rv.ownBlock) (hn : rv'.ownBlock = rv.ownBlock ∨ rv'.ownBlock = some w2.heap.size) :
    Crew w0 b c r G w' m (L ++ [mach0 w.heap.size f]) rv' := by
  have hz : (w.alloc (machObj b f)).heap.size = w.heap.size + 1 := by simp
  have hz2 := hb.size
  have h1 := (h.tm.add f).later hb
  have hro : ∀ k, rv.ownBlock = some k → Off k b c r w2 (L ++ [mach0 w.heap.size f]) ∧ LocM w0 b c r G w2 k := fun k e =>
    ⟨((h.ro k e).1.add f).later hb.size, (h.ro k e).2.later (by omega) (Grow.refl _ _)⟩
  refine ⟨h1.grown hg hro, ?_, fun k e => ?_⟩
  · rw [List.length_append]
    unfold ptrs at *
    rw [List.map_append]
    exact own
  · rcases hn with e2 | e2
    · rw [e2] at e
      exact ⟨(hro k e).1.later hg.size, (hro k e).2.later hg.size (Grow.refl _ _)⟩
    · rw [e2] at e
      cases e
      have hl := World.ownsRow.lt own w2.heap.size e2
      obtain ⟨m0, q1, q2, q3, q4, q5, q6⟩ := id h1
      have o := q1.has.at_.own
      have b1 := o.lb
      have b2 := o.lc
      have b3 := o.lr
      refine ⟨⟨hl.2, ⟨by omega, by omega, by omega⟩, fun i x hx => ?_⟩, ⟨hl.2, hl.1, ⟨by omega, by omega, by omega⟩, fun x hx e => by have := (q5 x.1 x.2 hx).1.lt; omega⟩⟩
      have p := (q1.mac i x hx).sys.pt
      have p1 := p.lt
      exact ⟨by omega, fun e => by have := (World.ownsRow.lt p.own _ e).2; omega⟩
theorem Mine.add {f rv' : Value} {w2 : World} (h : Mine w0 b c r G w L rv z) (hb : Below (w.alloc (machObj b f)).heap.size (w.alloc (machObj b f)) w2) (hg : w2.grownBy w' rv.ownBlock) (hn : rv'.ownBlock = rv.ownBlock ∨ rv'.ownBlock = some w2.heap.size) :
    Mine w0 b c r G w' (L ++ [mach0 w.heap.size f]) rv' z ∧ w'.heap[z]? = w.heap[z]? := by
  have hz : (w.alloc (machObj b f)).heap.size = w.heap.size + 1 := by simp
  have hz2 := hb.size
  have hl := h.loc.lt
  have hgs := hg.size
  refine ⟨⟨h.loc.later (by omega) (Grow.refl _ _), ((h.off.add f).later (w' := w2) hb.size).later hg.size, fun e => ?_⟩, ?_⟩
  · rcases hn with e2 | e2
    · rw [e2] at e; exact h.nr e
    · rw [e2] at e; cases e; omega
  · rw [hg.block z (by omega) (fun e => h.nr e.symm), hb.block z (by omega)]
    exact ((Below.refl w.heap.size w).alloc (Nat.le_refl _) _).block z hl
end
/-- A block of the law's own, wherever the heap ends. -/
structure MineP (w0 : World) (b c r : Nat) (G : List (Nat × List Value)) (L : List Mach) (rv : Value) (z : Nat) : Prop where
  ge : w0.heap.size ≤ z
  ne : z ≠ b ∧ z ≠ c ∧ z ≠ r
  ng : ∀ x, x ∈ G → x.1 ≠ z
  x : ∀ (i : Nat) (x : Mach), L[i]? = some x → z ≠ x.xb ∧ x.t.ownBlock ≠ some z
  nr : rv.ownBlock ≠ some z
section
variable {w0 : World} {b c r : Nat} {G G' : List (Nat × List Value)} {w w' : World} {m m' : M} {L : List Mach} {rv : Value} {z : Nat}
theorem Mine.p (h : Mine w0 b c r G w L rv z) : MineP w0 b c r G L rv z := ⟨h.loc.ge, h.loc.ne, h.loc.ng, h.off.x, h.nr⟩
theorem MineP.mine (h : MineP w0 b c r G L rv z) (hz : z < w.heap.size) : Mine w0 b c r G w L rv z := ⟨⟨hz, h.ge, h.ne, h.ng⟩, ⟨hz, h.ne, h.x⟩, h.nr⟩
theorem Crew.newP (h : Crew w0 b c r G w m L rv) (hz : w.heap.size ≤ z) : MineP w0 b c r G L rv z := by
  obtain ⟨m0, q1, q2, q3, q4, q5, q6⟩ := id h.tm
  have o := q1.has.at_.own
  have b1 := o.lb
  have b2 := o.lc
  have b3 := o.lr
  refine ⟨Nat.le_trans q1.has.below.size hz, ⟨by omega, by omega, by omega⟩, fun x hx e => by have := (q5 x.1 x.2 hx).1.lt; omega, fun i x hx => ?_, fun e => by have := (World.ownsRow.lt h.row _ e).2; omega⟩
  have p := (q1.mac i x hx).sys.pt
  have p1 := p.lt
  exact ⟨by omega, fun e => by have := (World.ownsRow.lt p.own _ e).2; omega⟩
end
section
variable {w0 : World} {b c r : Nat} {G G' : List (Nat × List Value)} {w w' : World} {m m' : M} {L : List Mach} {rv : Value} {z : Nat}
theorem Crew.stepG {α : Type} (h : Crew w0 b c r G w m L rv) {i : Nat} {x y : Mach} {R : List (Nat × List Value) → α → Value → Prop} {o : Option α × Pt × M} {e : Ending} (hi : L[i]? = some x) (hs : StepG w0 b c r G w L i x R o e w' y G') : Crew w0 b c r G' w' o.2.2 (L.set i y) rv :=
  ⟨hs.team, by
    rw [List.length_set, ptrs_set hi hs.xb]
    exact row_same h.row fun k e => ((h.ro k e).1.step hi hs.xb hs.but hs.row).2, fun k e => ⟨((h.ro k e).1.step hi hs.xb hs.but hs.row).1, (h.ro k e).2.later hs.but.size hs.gro⟩⟩
theorem Mine.stepG {α : Type} (h : Mine w0 b c r G w L rv z) {i : Nat} {x y : Mach} {R : List (Nat × List Value) → α → Value → Prop} {o : Option α × Pt × M} {e : Ending} (hi : L[i]? = some x) (hs : StepG w0 b c r G w L i x R o e w' y G') : Mine w0 b c r G' w' (L.set i y) rv z ∧ w'.heap[z]? = w.heap[z]? := by
  obtain ⟨q1, q2⟩ := h.off.step hi hs.xb hs.but hs.row
  exact ⟨⟨h.loc.later hs.but.size hs.gro, q1, h.nr⟩, q2⟩
end
/-- What a machine is to do. -/
structure Job where
  α : Type
  p : Pr α
  r : Ru α Ow
  R : List (Nat × List Value) → α → Value → Prop
  fk : FuncId
  caps : Array Value
  good : α → Prop
def Job.f (jb : Job) : Value := .func (.func jb.fk) #[] jb.caps
/-- Where a machine stands. -/
structure Mc (rep : Nat → M → Ow → Prop) (jb : Job) (G : List (Nat × List Value)) (s : Ow) (x : Mach) : Prop where
  run : x.fin = false → x.s.keeps = true ∧ x.f = jb.f ∧ jb.p.goes x.s.e.told ∧ (∃ q k, jb.p.rest x.s.e.told = .ask q k) ∧ Og rep jb.r (jb.p.rest x.s.e.told) s
  done : x.fin = true → ∃ a, jb.R G a x.out ∧ jb.r.fin a s
/-- What is asked of each job. -/
structure JobOk (jb : Job) : Prop where
  refl : ∀ s, jb.r.rely s s
  trans : ∀ s1 s2 s3, jb.r.rely s1 s2 → jb.r.rely s2 s3 → jb.r.rely s1 s3
  iface : ∀ G a v, jb.R G a v → ∃ ty u, v = .iface ty u
  mono : ∀ (G G' : List (Nat × List Value)) a v, (∀ x, x ∈ G → x ∈ G') → jb.R G a v → jb.R G' a v
  fin : ∀ a s s2, jb.r.fin a s → jb.r.rely s s2 → jb.r.fin a s2
  good : ∀ a s, jb.r.fin a s → jb.good a
  enter : ∀ zs w, (callFunc jb.fk zs).run Tryd.prog w = .ok (.enter jb.fk zs) w
theorem Mc.others {rep : Nat → M → Ow → Prop} {jb : Job} {G G' : List (Nat × List Value)} {s s2 : Ow} {x : Mach} (h : Mc rep jb G s x) (ok : JobOk jb) (hr : jb.r.rely s s2) (hG : ∀ x, x ∈ G → x ∈ G') : Mc rep jb G' s2 x :=
  ⟨fun e => let ⟨h1, h2, h3, h4, h5⟩ := h.run e; ⟨h1, h2, h3, h4, Og.others ok.trans _ h5 hr⟩, fun e => let ⟨a, h1, h2⟩ := h.done e; ⟨a, ok.mono _ _ _ _ hG h1, ok.fin _ _ _ h2 hr⟩⟩
/-- Machines, their jobs, and the ghost. -/
structure Kw (w0 : World) (b c r : Nat) (G : List (Nat × List Value)) (J : List Job) (rep : Nat → M → Ow → Prop) (m : M) (L : List Mach) (rv : Value) (s : Ow) (j : Nat) (W : World) : Prop where
  cr : Crew w0 b c r G W m L rv
  rp : rep j m s
  ln : L.length = J.length
  ms : ∀ (i : Nat) (x : Mach) (jb : Job), L[i]? = some x → J[i]? = some jb → Mc rep jb G s x
/-- Behind a step. -/
structure Kd (w0 : World) (b c r : Nat) (G : List (Nat × List Value)) (W : World) (J : List Job) (rep : Nat → M → Ow → Prop) (L : List Mach) (rv : Value) (j i : Nat) (x : Mach) (s : Ow) (e : Ending) (W' : World) (G' : List (Nat × List Value)) (m' : M) (s' : Ow) (y : Mach) : Prop where
  kw : Kw w0 b c r G' J rep m' (L.set i y) rv s' (j + 1) W'
  ret : e = .returned (.bool y.fin)
  xb : y.xb = x.xb
  told : y.fin = false → y.s.e.told.length = x.s.e.told.length + 1
  gro : Grow W G G'
  size : W.heap.size ≤ W'.heap.size
  gu : ∀ (k : Nat) (jk : Job), k ≠ i → J[k]? = some jk → jk.r.rely s s'
  mine : ∀ z, Mine w0 b c r G W L rv z → Mine w0 b c r G' W' (L.set i y) rv z ∧ W'.heap[z]? = W.heap[z]?
section
variable {w0 : World} {b c r : Nat} {G : List (Nat × List Value)} {W : World} {J : List Job} {rep : Nat → M → Ow → Prop} {m : M} {L : List Mach} {rv : Value} {s : Ow} {j : Nat}
theorem Kw.later {W' : World} (h : Kw w0 b c r G J rep m L rv s j W) (hb : Below W.heap.size W W') : Kw w0 b c r G J rep m L rv s j W' := ⟨h.cr.later hb, h.rp, h.ln, h.ms⟩
theorem Kw.aside {W' : World} {z : Nat} (h : Kw w0 b c r G J rep m L rv s j W) (hk : But z W W') (hz : Mine w0 b c r G W L rv z) : Kw w0 b c r G J rep m L rv s j W' := ⟨h.cr.aside hk hz, h.rp, h.ln, h.ms⟩
theorem Kw.step (h : Kw w0 b c r G J rep m L rv s j W) (hJ : ∀ jb, jb ∈ J → JobOk jb) {i : Nat} {x : Mach} {jb : Job} (hi : L[i]? = some x) (hjb : J[i]? = some jb) (hfin : x.fin = false)
    (hgu : ∀ s1 s2, jb.r.guar s1 s2 → ∀ (k : Nat) (jk : Job), k ≠ i → J[k]? = some jk → jk.r.rely s1 s2) (hcnt : ∀ j m s, rep j m s → j ≤ 10000 → m.count ≤ 100000) (hj : j ≤ 9999)
    (hcl : ∀ w1 s1, SysE w0 b c r x.xb 1 x.t G w1 m s1 → But x.xb W w1 → (∀ a, (jb.p.run s1 m).1 = some a → jb.good a) → Calls Tryd.prog jb.fk (#[.pointer (some ⟨x.xb, 1, none⟩)] ++ jb.caps) w1 fun e w' => Ev w0 b c r x.xb 1 x.t G w1 jb.R (jb.p.run s1 m) e w') :
    Calls Tryd.prog 27 #[.pointer (some ⟨x.xb, 0, none⟩)] W fun e w' => ∃ G' m' s' y, Kd w0 b c r G W J rep L rv j i x s e w' G' m' s' y := by
  have ok := hJ jb (List.mem_of_getElem? hjb)
  obtain ⟨f1, f2, f3, ⟨q, k, f4⟩, f5⟩ := (h.ms i x jb hi hjb).run hfin
  rw [f4] at f5
  obtain ⟨s3, g1, g2, g3⟩ := f5 s (ok.refl s) j m h.rp
  have hF : Fresh x.s.fresh.e := ⟨f1, rfl, rfl⟩
  have hm3 := hcnt _ _ _ g1 (by omega)
  obtain ⟨o, ho⟩ : ∃ o, o = jb.p.run x.s.fresh.e m := ⟨_, rfl⟩
  have hsn := Pr.rest_snoc (q.on m).2 x.s.e.told jb.p f3 f4
  have key : o.2.2 = (q.on m).1 ∧ ((∃ a, o.1 = some a ∧ k (q.on m).2 = .ret a) ∨ (∃ q2 k2, k (q.on m).2 = .ask q2 k2 ∧ o.1 = none ∧ o.2.1.told = x.s.e.told ++ [(q.on m).2] ∧ o.2.1.keeps = true)) := by
    cases hk : k (q.on m).2 with
    | ret a =>
      have := Pr.run_last (m := m) hF f3 f4 hk
      rw [ho, this]
      exact ⟨rfl, .inl ⟨a, rfl, rfl⟩⟩
    | ask q2 k2 =>
      have := Pr.run_more (m := m) hF f3 f4 hk
      rw [ho, this]
      exact ⟨rfl, .inr ⟨q2, k2, rfl, rfl, rfl, f1⟩⟩
  have hst := h.cr.tm.stepG hi hfin (fk := jb.fk) (caps := jb.caps) f2 ok.enter jb.R ok.iface o (by rw [ho]; exact Pr.run_facts _ _ _) (by rw [key.1]; omega) (fun w1 hS hB => by
    rw [ho]
    refine hcl w1 _ hS hB fun a ha => ?_
    rw [← ho] at ha
    rcases key.2 with ⟨a2, e1, e2⟩ | ⟨q2, k2, e1, e2, -⟩
    · rw [ha] at e1
      cases e1
      rw [e2] at g3
      exact ok.good a s3 (g3 s3 (ok.refl s3))
    · rw [ha] at e2; cases e2)
  refine hst.mono ?_
  rintro e w' ⟨y, G', hy⟩
  have hil := (List.getElem?_eq_some_iff.1 hi).1
  have hcr := h.cr.stepG hi hy
  rw [key.1] at hcr
  have hself : Mc rep jb G' s3 y := by
    rcases hy.out with ⟨a, o1, o2, o3, o4, -⟩ | ⟨o1, o2, o3, o4, o5, o6⟩
    · refine ⟨fun e => (by rw [o3] at e; cases e), fun _ => ?_⟩
      rcases key.2 with ⟨a2, e1, e2⟩ | ⟨q2, k2, e1, e2, -⟩
      · rw [o1] at e1
        cases e1
        rw [e2] at g3
        exact ⟨a, o4, g3 s3 (ok.refl s3)⟩
      · rw [o1] at e2; cases e2
    · refine ⟨fun _ => ?_, fun e => (by rw [o3] at e; cases e)⟩
      rcases key.2 with ⟨a2, e1, e2⟩ | ⟨q2, k2, e1, e2, e3, e4⟩
      · rw [o1] at e1; cases e1
      · have t1 : y.s.e.told = x.s.e.told ++ [(q.on m).2] := by rw [o6]; exact e3
        have t2 : y.s.keeps = true := by
          have := congrArg Pt.keeps o6
          exact (show y.s.keeps = o.2.1.keeps from this).trans e4
        rw [t1]
        refine ⟨t2, o4.trans f2, hsn.2, ⟨q2, k2, by rw [hsn.1]; exact e1⟩, by rw [hsn.1]; exact g3⟩
  refine ⟨G', (q.on m).1, s3, y, ⟨hcr, g1, by rw [List.length_set]; exact h.ln, fun t z jz ht hjz => ?_⟩, ?_, hy.xb, fun hf => ?_, hy.gro, hy.but.size, fun k jk hk hjk => hgu s s3 g2 k jk hk hjk, fun z hz => hz.stepG hi hy⟩
  · rw [List.getElem?_set] at ht
    split at ht
    · rename_i e
      subst e
      cases ht
      rw [hjb] at hjz
      cases hjz
      exact hself
    · rename_i e
      have okz := hJ jz (List.mem_of_getElem? hjz)
      exact (h.ms t z jz ht hjz).others okz (hgu s s3 g2 t jz (fun e2 => e e2.symm) hjz) hy.gro.1
  · rcases hy.out with ⟨a, o1, o2, o3, -⟩ | ⟨o1, o2, o3, -⟩
    · rw [o2, o3]
    · rw [o2, o3]
  · rcases hy.out with ⟨a, o1, o2, o3, -⟩ | ⟨o1, o2, o3, o4, o5, o6⟩
    · rw [o3] at hf; cases hf
    · rcases key.2 with ⟨a2, e1, e2⟩ | ⟨q2, k2, e1, e2, e3, e4⟩
      · rw [o1] at e1; cases e1
      · have t1 : y.s.e.told = x.s.e.told ++ [(q.on m).2] := by rw [o6]; exact e3
        rw [t1, List.length_append]
        rfl
end
theorem Pr.Le.rest {α : Type} : ∀ {p : Pr α} {n : Nat} (l : List An), p.Le n → p.goes l → (p.rest l).Le (n - l.length)
  | p, n, [], h, _ => by
    have e : p.rest [] = p := by cases p <;> rfl
    rw [e]
    exact h
  | .ret _, _, _ :: _, _, h => h.elim
  | .ask _ _, 0, _ :: _, h, _ => h.elim
  | .ask _ k, n + 1, a :: l, h, hg => by
    have := Pr.Le.rest (p := k a) l (h a) hg
    simp only [Pr.rest, List.length_cons, Nat.add_sub_add_right]
    exact this
/-- A machine that has not ended was not asked too often. -/
theorem Mc.short {rep : Nat → M → Ow → Prop} {jb : Job} {G : List (Nat × List Value)} {s : Ow} {x : Mach} (h : Mc rep jb G s x) {n : Nat} (hn : jb.p.Le n) (hf : x.fin = false) : x.s.e.told.length < n := by
  obtain ⟨f1, f2, f3, ⟨q, k, f4⟩, f5⟩ := h.run hf
  have := hn.rest x.s.e.told f3
  rw [f4] at this
  rcases Nat.lt_or_ge x.s.e.told.length n with h1 | h1
  · exact h1
  · rw [Nat.sub_eq_zero_of_le h1] at this
    exact this.elim
/-- A machine that begins. -/
theorem Mc.start {rep : Nat → M → Ow → Prop} {jb : Job} {G : List (Nat × List Value)} {s : Ow} {xb : Nat} (ho : Og rep jb.r jb.p s) (ha : ∃ q k, jb.p = .ask q k) : Mc rep jb G s (mach0 xb jb.f) := by
  have e : ∀ p : Pr jb.α, p.rest [] = p := fun p => by cases p <;> rfl
  refine ⟨fun _ => ⟨rfl, rfl, ?_, ?_, ?_⟩, fun e => (by cases e)⟩
  · show jb.p.goes []
    cases jb.p <;> trivial
  · show ∃ q k, jb.p.rest [] = _
    rw [e]; exact ha
  · show Og rep jb.r (jb.p.rest []) s
    rw [e]; exact ho
end Go.Proofs.YtbcpdkmbbgcfbaaDoor
/- What the machines' functions come to, over whatever port. Condition: the library's table stands. -/
namespace Go.Proofs.YtbcpdkmbbgcfbaaDoor
open Go.RowKit Go.Op
set_option maxRecDepth 100000

theorem ent_43 (xs : Array Value) (w : World) : (callFunc 43 xs).run Tryd.prog w = .ok (.enter 43 xs) w := by kernel_rfl
theorem ent_44 (xs : Array Value) (w : World) : (callFunc 44 xs).run Tryd.prog w = .ok (.enter 44 xs) w := by kernel_rfl
theorem ent_26 (xs : Array Value) (w : World) : (callFunc 26 xs).run Tryd.prog w = .ok (.enter 26 xs) w := by kernel_rfl
theorem mkb43 (x : Value) (w : World) : (Instr.makeInterface 43 x).run Tryd.prog w = .ok (.iface 43 x) w := run_makeInterface w 43 x (by kernel_rfl)
theorem mkb3 (x : Value) (w : World) : (Instr.makeInterface 3 x).run Tryd.prog w = .ok (.iface 3 x) w := run_makeInterface w 3 x (by kernel_rfl)
theorem mkb25 (x : Value) (w : World) : (Instr.makeInterface 25 x).run Tryd.prog w = .ok (.iface 25 x) w := run_makeInterface w 25 x (by kernel_rfl)
def R43 (_ : List (Nat × List Value)) (a : Option (List Int × Int)) (v : Value) : Prop := ∃ x, a = some x ∧ v = .iface 43 (.int .i64 x.2)
def R26 (G : List (Nat × List Value)) (a : Option (List Int × Int)) (v : Value) : Prop := ∃ x, ∃ sl : Sl, a = some x ∧ sl.In G (ints x.1) ∧ v = if x.2 = 0 then .iface 25 (.slice sl.a sl.n sl.cap) else .iface 4 (.bool false)
def told44 (x : Sp × Int) : Int := if x.2 = 0 then (if x.1.h = 0 then -1 else x.1.a.r.ver) else -2
def R44 (_ : List (Nat × List Value)) (a : Option (Sp × Int)) (v : Value) : Prop := ∃ x, a = some x ∧ v = .iface 3 (.int .i64 (told44 x))
section
variable {w0 : World} {b c r pb po : Nat} {t : Value} {G : List (Nat × List Value)} {w : World} {m : M} {s : Pt} {zy zl : Nat} {y : Yd} {hd p1 p2 : Int}
theorem node_at (hy : SVar w zy (Yd.row b y)) (hn : y.n = ⟨⟨#[107]⟩, hd, [p1, p2]⟩) : (Instr.loadAt 27 (.pointer (some ⟨zy, 2, none⟩))).run Tryd.prog w = .ok (.agg #[.string ⟨#[107]⟩, .int .i64 hd, .slice y.pn.a y.pn.n y.pn.cap]) w := by
  obtain ⟨H, nd, pn, ch, hs⟩ := y
  simp only at hn ⊢
  subst hn
  exact load_mid (z := zy) (o := 2) (ty := 27) (sub := [.string ⟨#[107]⟩, .int .i64 hd, .slice pn.a pn.n pn.cap]) (hy.mid 2 _ (fun j v hj => by
    match j, hj with
    | 0, hj => exact hj
    | 1, hj => exact hj
    | 2, hj => exact hj
    | j + 3, hj => simp at hj)) sh27
set_option maxHeartbeats 1000000 in
theorem clo43 (h : SysE w0 b c r pb po t G w m s) (hc : m.count ≤ 100000) (hy : SVar w zy (Yd.row b y)) (hn : y.n = ⟨⟨#[107]⟩, hd, [p1, p2]⟩) {v : Int} (cv : w.cell? ⟨zl, 0, none⟩ = some (.int .i64 v)) (hg : ∀ a, ((cutP 40 hd v).run s m).1 = some a → a ≠ none) :
    Calls Tryd.prog 43 #[.pointer (some ⟨pb, po, none⟩), .pointer (some ⟨zy, 0, none⟩), .pointer (some ⟨zl, 0, none⟩)] w fun e w' => Ev w0 b c r pb po t G w R43 ((cutP 40 hd v).run s m) e w' := by
  have hl := Cut_E h 40 (by omega) ⟨⟨#[107]⟩, hd, [p1, p2]⟩ ⟨y.pn, .nil, .nil, .nil⟩ v (fun e => hg _ e rfl)
  have hld := node_at hy hn
  have hm := mkb43
  unfold Nd.v at hl
  simp only at hl
  clear h hc hy hn hg
  go_enter Tryd.func43, Tryd.ntmps43
  go_wp2_with (first | ((with_reducible refine load_run ?_ (.tmp 9) 27 ?_ ?_ hld ?_); exact rfl; exact rfl; exact rfl) | fail)
  refine hl.mono ?_
  rintro e w1 hE
  rcases hE.cases with ⟨t1, G1, s1, m1, ho, rfl, ha⟩ | ⟨t1, G1, s1, m1, o, v1, ho, rfl, ⟨x, sl, rfl, hin, rfl⟩, ha⟩
  · have HX : Hid (Ev w0 b c r pb po t G w R43 ((cutP 40 hd v).run s m) (Halt pb po) w1) := Ev.die ho ha
    clear hl hE ho ha
    unfold Halt
    go_wp2
    exact ⟨rfl, HX.out⟩
  · have HX : Hid (Ev w0 b c r pb po t G w R43 ((cutP 40 hd v).run s m) (.returned (.iface 43 (.int .i64 x.2))) w1) := Ev.ret ho ⟨x, rfl, rfl⟩ ha
    clear hl hE ho ha hin
    go_wp2
    go_ret
    exact HX.out
set_option maxHeartbeats 1000000 in
theorem clo26 (h : SysE w0 b c r pb po t G w m s) (hc : m.count ≤ 100000) (hy : SVar w zy (Yd.row b y)) (hn : y.n = ⟨⟨#[107]⟩, hd, [p1, p2]⟩) {v : Int} (cv : w.cell? ⟨zl, 0, none⟩ = some (.int .i64 v)) (hg : ∀ a, ((cutP 40 hd v).run s m).1 = some a → a ≠ none) :
    Calls Tryd.prog 26 #[.pointer (some ⟨pb, po, none⟩), .pointer (some ⟨zy, 0, none⟩), .pointer (some ⟨zl, 0, none⟩)] w fun e w' => Ev w0 b c r pb po t G w R26 ((cutP 40 hd v).run s m) e w' := by
  have hl := Cut_E h 40 (by omega) ⟨⟨#[107]⟩, hd, [p1, p2]⟩ ⟨y.pn, .nil, .nil, .nil⟩ v (fun e => hg _ e rfl)
  have hld := node_at hy hn
  have hm := mkb25
  have hm4 := mkb4
  unfold Nd.v at hl
  simp only at hl
  clear h hc hy hn hg
  go_enter Tryd.func26, Tryd.ntmps26
  go_wp2_with (first | ((with_reducible refine load_run ?_ (.tmp 9) 27 ?_ ?_ hld ?_); exact rfl; exact rfl; exact rfl) | fail)
  refine hl.mono ?_
  rintro e w1 hE
  rcases hE.cases with ⟨t1, G1, s1, m1, ho, rfl, ha⟩ | ⟨t1, G1, s1, m1, o, v1, ho, rfl, ⟨⟨cs, e1⟩, sl, rfl, hin, rfl⟩, ha⟩
  · have HX : Hid (Ev w0 b c r pb po t G w R26 ((cutP 40 hd v).run s m) (Halt pb po) w1) := Ev.die ho ha
    clear hl hE ho ha
    unfold Halt
    go_wp2
    exact ⟨rfl, HX.out⟩
  · by_cases h0 : e1 = 0
    · subst h0
      have HX : Hid (Ev w0 b c r pb po t G w R26 ((cutP 40 hd v).run s m) (.returned (.iface 25 (.slice sl.a sl.n sl.cap))) w1) := Ev.ret ho ⟨(cs, 0), sl, rfl, hin, rfl⟩ ha
      clear hl hE ho ha hin
      go_wp2
      go_ret
      exact HX.out
    · have HX : Hid (Ev w0 b c r pb po t G w R26 ((cutP 40 hd v).run s m) (.returned (.iface 4 (.bool false))) w1) := Ev.ret ho ⟨(cs, e1), sl, rfl, hin, by rw [if_neg h0]⟩ ha
      clear hl hE ho ha hin
      go_wp2
      go_ret
      exact HX.out
set_option maxHeartbeats 1000000 in
theorem clo44 (h : SysE w0 b c r pb po t G w m s) (hc : m.count ≤ 100000) (hy : SVar w zy (Yd.row b y)) (hn : y.n = ⟨⟨#[107]⟩, hd, [p1, p2]⟩) {v : Int} (cv : w.cell? ⟨zl, 0, none⟩ = some (.int .i64 v)) (hg : ∀ a, ((upP 40 hd v).run s m).1 = some a → a ≠ none) :
    Calls Tryd.prog 44 #[.pointer (some ⟨pb, po, none⟩), .pointer (some ⟨zy, 0, none⟩), .pointer (some ⟨zl, 0, none⟩)] w fun e w' => Ev w0 b c r pb po t G w R44 ((upP 40 hd v).run s m) e w' := by
  have hl := At_E h 40 (by omega) ⟨⟨#[107]⟩, hd, [p1, p2]⟩ ⟨y.pn, .nil, .nil, .nil⟩ v (fun e => hg _ e rfl)
  have hld := node_at hy hn
  have hm := mkb3
  unfold Nd.v at hl
  simp only at hl
  clear h hc hy hn hg
  go_enter Tryd.func44, Tryd.ntmps44
  go_wp2_with (first | ((with_reducible refine load_run ?_ (.tmp 10) 27 ?_ ?_ hld ?_); exact rfl; exact rfl; exact rfl) | fail)
  refine hl.mono ?_
  rintro e w1 hE
  rcases hE.cases with ⟨t1, G1, s1, m1, ho, rfl, ha⟩ | ⟨t1, G1, s1, m1, o, v1, ho, rfl, ⟨⟨sp, e1⟩, q, rfl, hin, rfl⟩, ha⟩
  · have HX : Hid (Ev w0 b c r pb po t G w R44 ((upP 40 hd v).run s m) (Halt pb po) w1) := Ev.die ho ha
    clear hl hE ho ha
    unfold Halt
    go_wp2
    exact ⟨rfl, HX.out⟩
  · obtain ⟨w2, hw2⟩ : ∃ W, W = w1.alloc (.cells (sp.a.row q).toArray 42) := ⟨_, rfl⟩
    have hb2 : Below w1.heap.size w1 w2 := by rw [hw2]; exact (Below.refl _ _).alloc (Nat.le_refl _) _
    have sa : SVar w2 w1.heap.size (sp.a.row q) := by rw [hw2]; exact snew _ _ _
    have c0 := sa.cell (i := 0) rfl
    have HX : Hid (Ev w0 b c r pb po t G w R44 ((upP 40 hd v).run s m) (.returned (.iface 3 (.int .i64 (told44 (sp, e1))))) w2) := Ev.ret ho ⟨(sp, e1), rfl, rfl⟩ (ha.later hb2)
    have HW2 := Lib.hid hw2.symm
    unfold Ag.v
    simp only [Ag.row] at HW2
    simp only at c0 ⊢
    clear hl hE ho ha hin hw2 hb2 sa
    by_cases h0 : e1 = 0
    · subst h0
      by_cases h1 : sp.h = 0
      · have h2 : (sp.h != 0) = false := by rw [h1]; rfl
        have h3 : told44 (sp, 0) = -1 := by unfold told44; rw [if_pos rfl, if_pos h1]
        rw [h3] at HX
        rw [h2]
        clear h1 h2 h3
        go_wp2_with (first | rw [HW2.out] | fail)
        go_ret
        exact HX.out
      · have h2 : (sp.h != 0) = true := by simpa using h1
        have h3 : told44 (sp, 0) = sp.a.r.ver := by unfold told44; rw [if_pos rfl, if_neg h1]
        rw [h3] at HX
        rw [h2]
        clear h1 h2 h3
        go_wp2_with (first | rw [HW2.out] | fail)
        go_ret
        exact HX.out
    · have h3 : told44 (sp, e1) = -2 := by unfold told44; rw [if_neg h0]
      rw [h3] at HX
      clear h3
      go_wp2_with (first | rw [HW2.out] | fail)
      go_ret
      exact HX.out
end
end Go.Proofs.YtbcpdkmbbgcfbaaDoor
/- Many who cut one chain, and the law's own blocks beside them. Condition: the library's table stands. -/
namespace Go.Proofs.YtbcpdkmbbgcfbaaDoor
open Go.RowKit Go.Op
set_option maxRecDepth 100000

/-- Where a version's ages begin. -/
def ixv (l : List (Int × Rv × Int)) (v : Int) : Nat := if posOf v (l.map fun x => x.2.1.ver) < 0 then l.length else (posOf v (l.map fun x => x.2.1.ver)).toNat
theorem ixv_is (v : Int) : ∀ l : List (Int × Rv × Int), IxOf l v (ixv l v)
  | [] => ⟨fun j x hj => by simp [ixv, posOf] at hj, fun x hx => by simp at hx, by simp [ixv, posOf]⟩
  | y :: l => by
    have ih := ixv_is v l
    have hp := posOf_ge v (l.map fun x => x.2.1.ver)
    by_cases hv : y.2.1.ver ≤ v
    · have e : ixv (y :: l) v = 0 := by
        unfold ixv
        rw [List.map_cons, posOf, if_pos hv]
        rfl
      rw [e]
      exact ⟨fun j x hj => by omega, fun x hx => by simp at hx; subst hx; exact hv, Nat.zero_le _⟩
    · have e : ixv (y :: l) v = ixv l v + 1 := by
        unfold ixv
        rw [List.map_cons, posOf, if_neg hv]
        by_cases h0 : posOf v (l.map fun x => x.2.1.ver) < 0
        · rw [if_pos h0, if_pos h0, if_pos (by decide)]
          rfl
        · rw [if_neg h0, if_neg h0, if_neg (by omega)]
          omega
      rw [e]
      refine ⟨fun j x hj hx => ?_, fun x hx => ih.at_ x (by simpa using hx), by have := ih.le; simp only [List.length_cons]; omega⟩
      cases j with
      | zero =>
        simp at hx
        subst hx
        exact hv
      | succ j => exact ih.lt j x (by omega) (by simpa using hx)
theorem IxOf.le_of {l : List (Int × Rv × Int)} {v V : Int} {i i0 : Nat} (h : IxOf l v i) (h0 : IxOf l V i0) (hv : v ≤ V) : i0 ≤ i := by
  rcases Nat.lt_or_ge i i0 with hlt | hge
  · have hl := h0.le
    obtain ⟨x, hx⟩ : ∃ x, l[i]? = some x := ⟨_, List.getElem?_eq_getElem (by omega)⟩
    exact absurd (Int.le_trans (h.at_ x hx) hv) (h0.lt i x hlt hx)
  · exact hge
/-- Where each one who cuts begins. -/
def ixs (l : List (Int × Rv × Int)) (vs : List Int) (o : Nat) : Nat := match vs[o]? with
  | some v => ixv l v
  | none => l.length
theorem ixs_at {l : List (Int × Rv × Int)} {vs : List Int} {o : Nat} {v : Int} (h : vs[o]? = some v) : ixs l vs o = ixv l v := by
  unfold ixs
  rw [h]
theorem prev_nxt {m : M} {l : List (Int × Rv × Int)} {h : Int} (hc : Ch m h l) {i : Nat} {x : Int × Rv × Int} (hx : l[i]? = some x) : m.look x.2.2 = some (.word (nxt l i)) := by
  obtain ⟨h', -, d2, d3, d4⟩ := hc.drop (i + 1)
  rw [d3 i x rfl hx]
  unfold nxt
  rcases Nat.lt_or_ge (i + 1) l.length with hlt | hge
  · obtain ⟨y, hy, e, -⟩ := d2 hlt
    rw [hy, e]
  · rw [List.getElem?_eq_none hge, d4 hge]
theorem yo_start {m : M} {l : List (Int × Rv × Int)} {hd : Int} (hc : Ch m (topOf l) l) (ix : Nat → Nat) (C : Int) (hC : m.count ≤ C) : Yo m l hd ix C 0 m (fun _ => none) :=
  ⟨fun i x hx => by rw [if_pos rfl]; exact prev_nxt hc hx, fun i o e => (by cases e), fun _ _ => rfl, by simpa using hC⟩
theorem base_of {m : M} {H hd p1 p2 : Int} {l : List (Int × Rv × Int)} (h : YM m H hd p1 p2 l) (h40 : l.length ≤ 40) : Base m l hd := ⟨h.ch, h.word, (ym_flat h).2.1, (ym_flat h).1, h40⟩
/-- One who cuts. -/
def jobC (fk : FuncId) (R : List (Nat × List Value) → Option (List Int × Int) → Value → Prop) (l : List (Int × Rv × Int)) (ix : Nat → Nat) (k : Nat) (v : Int) (zy zl : Nat) (hd : Int) : Job :=
  ⟨Option (List Int × Int), cutP 40 hd v, cutR l ix k, R, fk, #[.pointer (some ⟨zy, 0, none⟩), .pointer (some ⟨zl, 0, none⟩)], fun a => a ≠ none⟩
/-- Who reads. -/
def jobR (l : List (Int × Rv × Int)) (k : Nat) (v : Int) (zy zl : Nat) (hd : Int) : Job :=
  ⟨Option (Sp × Int), upP 40 hd v, readR l v k, R44, 44, #[.pointer (some ⟨zy, 0, none⟩), .pointer (some ⟨zl, 0, none⟩)], fun a => a ≠ none⟩
theorem jobC_ok43 (l : List (Int × Rv × Int)) (ix : Nat → Nat) (k : Nat) (v : Int) (zy zl : Nat) (hd : Int) : JobOk (jobC 43 R43 l ix k v zy zl hd) :=
  ⟨relyC.refl k, relyC.trans k, fun G a v h => let ⟨x, _, h2⟩ := h; ⟨_, _, h2⟩, fun _ _ _ _ _ h => h, fun _ _ _ h hr => CutFin.rely h hr, fun a s h e => (by obtain ⟨cs, h1, -⟩ := h; rw [e] at h1; cases h1), ent_43⟩
theorem jobC_ok26 (l : List (Int × Rv × Int)) (ix : Nat → Nat) (k : Nat) (v : Int) (zy zl : Nat) (hd : Int) : JobOk (jobC 26 R26 l ix k v zy zl hd) :=
  ⟨relyC.refl k, relyC.trans k, fun G a v h => by
    obtain ⟨x, sl, _, _, h3⟩ := h
    by_cases h0 : x.2 = 0
    · rw [if_pos h0] at h3; exact ⟨_, _, h3⟩
    · rw [if_neg h0] at h3; exact ⟨_, _, h3⟩, fun G G' a v hG h => by
    obtain ⟨x, sl, h1, h2, h3⟩ := h
    exact ⟨x, sl, h1, h2.more hG, h3⟩, fun _ _ _ h hr => CutFin.rely h hr, fun a s h e => (by obtain ⟨cs, h1, -⟩ := h; rw [e] at h1; cases h1), ent_26⟩
theorem jobR_ok (l : List (Int × Rv × Int)) (k : Nat) (v : Int) (zy zl : Nat) (hd : Int) : JobOk (jobR l k v zy zl hd) :=
  ⟨relyC.refl k, relyC.trans k, fun G a v h => let ⟨x, _, h2⟩ := h; ⟨_, _, h2⟩, fun _ _ _ _ _ h => h, fun _ _ _ h _ => h, fun a s (h : a = some (foundS v l)) e => (by rw [e] at h; cases h), ent_44⟩
/-- Machines, and blocks of the law's own. -/
structure Sr (w0 : World) (b c r : Nat) (G : List (Nat × List Value)) (J : List Job) (rep : Nat → M → Ow → Prop) (m : M) (L : List Mach) (rv : Value) (s : Ow) (j : Nat) (W : World) (vars : List (Nat × List Value)) : Prop where
  kw : Kw w0 b c r G J rep m L rv s j W
  vs : ∀ p, p ∈ vars → Mine w0 b c r G W L rv p.1 ∧ SVar W p.1 p.2
section
variable {w0 : World} {b c r : Nat} {G : List (Nat × List Value)} {W : World} {J : List Job} {rep : Nat → M → Ow → Prop} {m : M} {L : List Mach} {rv : Value} {s : Ow} {j : Nat} {vars : List (Nat × List Value)}
theorem Sr.start (h : HasE w0 b c r G W m) (hrp : rep 0 m s) (hv : ∀ p, p ∈ vars → LocM w0 b c r G W p.1 ∧ SVar W p.1 p.2) : Sr w0 b c r G [] rep m [] (.slice none 0 0) s 0 W vars :=
  ⟨⟨Crew.nil h, hrp, rfl, fun i x jb hi => (by simp at hi)⟩, fun p hp => ⟨(hv p hp).1.mine0, (hv p hp).2⟩⟩
theorem Sr.later {W' : World} (h : Sr w0 b c r G J rep m L rv s j W vars) (hb : Below W.heap.size W W') : Sr w0 b c r G J rep m L rv s j W' vars :=
  ⟨h.kw.later hb, fun p hp => ⟨(h.vs p hp).1.later hb.size, (h.vs p hp).2.later hb⟩⟩
theorem Sr.newVar (h : Sr w0 b c r G J rep m L rv s j W vars) (row : List Value) (ty : TypeId) : Sr w0 b c r G J rep m L rv s j (W.alloc (.cells row.toArray ty)) ((W.heap.size, row) :: vars) := by
  have hb := (Below.refl W.heap.size W).alloc (Nat.le_refl _) (.cells row.toArray ty)
  refine ⟨h.kw.later hb, fun p hp => ?_⟩
  rcases List.mem_cons.1 hp with rfl | hp
  · exact ⟨MineP.mine (h.kw.cr.newP (Nat.le_refl _)) (by simp), snew W row ty⟩
  · exact ⟨(h.vs p hp).1.later hb.size, (h.vs p hp).2.later hb⟩
theorem Sr.put {z : Nat} {a : Value} (h : Sr w0 b c r G J rep m L rv s j W ((z, [a]) :: vars)) (hne : ∀ p, p ∈ vars → p.1 ≠ z) (u : Value) : Sr w0 b c r G J rep m L rv s j (W.setCell ⟨z, 0, none⟩ u) ((z, [u]) :: vars) := by
  have hb : But z W (W.setCell ⟨z, 0, none⟩ u) := (But.refl _ _).set _ _
  obtain ⟨h1, h2⟩ := h.vs (z, [a]) List.mem_cons_self
  refine ⟨h.kw.aside hb h1, fun p hp => ?_⟩
  rcases List.mem_cons.1 hp with rfl | hp
  · exact ⟨h1.later hb.size, h2.set (i := 0) (by simp) u⟩
  · obtain ⟨q1, q2⟩ := h.vs p (List.mem_cons_of_mem _ hp)
    exact ⟨q1.later hb.size, q2.same hb.size (hb.block _ q2.lt (hne p hp))⟩
theorem Sr.add {w2 W' : World} {rv' : Value} (h : Sr w0 b c r G J rep m L rv s j W vars) (jb : Job) (ho : Og rep jb.r jb.p s) (ha : ∃ q k, jb.p = .ask q k) (hb : Below (W.alloc (machObj b jb.f)).heap.size (W.alloc (machObj b jb.f)) w2)
    (own : W'.ownsRow w0.heap.size 59 1 rv' (L.length + 1) (ptrs L ++ [.pointer (some ⟨W.heap.size, 0, none⟩)])) (hg : w2.grownBy W' rv.ownBlock) (hn : rv'.ownBlock = rv.ownBlock ∨ rv'.ownBlock = some w2.heap.size) :
    Sr w0 b c r G (J ++ [jb]) rep m (L ++ [mach0 W.heap.size jb.f]) rv' s j W' vars := by
  refine ⟨⟨h.kw.cr.add hb own hg hn, h.kw.rp, by rw [List.length_append, List.length_append, h.kw.ln]; rfl, fun i x jx hi hj => ?_⟩, fun p hp => ?_⟩
  · have hln := h.kw.ln
    rw [List.getElem?_append] at hi hj
    by_cases hlt : i < L.length
    · rw [if_pos hlt] at hi
      rw [if_pos (by omega)] at hj
      exact h.kw.ms i x jx hi hj
    · rw [if_neg hlt] at hi
      rw [if_neg (by omega)] at hj
      have h1 := (List.getElem?_eq_some_iff.1 hi).1
      simp at h1
      obtain rfl : i = L.length := by omega
      rw [Nat.sub_self] at hi
      rw [← hln, Nat.sub_self] at hj
      cases hi
      cases hj
      exact Mc.start ho ha
  · obtain ⟨q1, q2⟩ := h.vs p hp
    obtain ⟨r1, r2⟩ := q1.add hb hg hn
    exact ⟨r1, q2.same (by have := hb.size; have := hg.size; simp at *; omega) r2⟩
/-- Each job keeps to its own number. -/
def JobsIx (J : List Job) : Prop := ∀ (i : Nat) (jb : Job), J[i]? = some jb → jb.r.rely = relyC i ∧ jb.r.guar = guarC i ∧ JobOk jb
theorem JobsIx.snoc {jb : Job} (h : JobsIx J) (h1 : jb.r.rely = relyC J.length) (h2 : jb.r.guar = guarC J.length) (h3 : JobOk jb) : JobsIx (J ++ [jb]) := fun i jx hi => by
  rw [List.getElem?_append] at hi
  split at hi
  · exact h i jx hi
  · have h4 := (List.getElem?_eq_some_iff.1 hi).1
    simp at h4
    obtain rfl : i = J.length := by omega
    rw [Nat.sub_self] at hi
    cases hi
    exact ⟨h1, h2, h3⟩
theorem Sr.step (h : Sr w0 b c r G J rep m L rv s j W vars) (hJ : JobsIx J) {i : Nat} {x : Mach} {jb : Job} (hi : L[i]? = some x) (hjb : J[i]? = some jb) (hfin : x.fin = false) (hcnt : ∀ j m s, rep j m s → j ≤ 10000 → m.count ≤ 100000) (hj : j ≤ 9999)
    (hcl : ∀ w1 s1, SysE w0 b c r x.xb 1 x.t G w1 m s1 → (∀ p, p ∈ vars → SVar w1 p.1 p.2) → (∀ a, (jb.p.run s1 m).1 = some a → jb.good a) → Calls Tryd.prog jb.fk (#[.pointer (some ⟨x.xb, 1, none⟩)] ++ jb.caps) w1 fun e w' => Ev w0 b c r x.xb 1 x.t G w1 jb.R (jb.p.run s1 m) e w') :
    Calls Tryd.prog 27 #[.pointer (some ⟨x.xb, 0, none⟩)] W fun e w' => ∃ G' m' s' y, e = .returned (.bool y.fin) ∧ y.xb = x.xb ∧ (y.fin = false → y.s.e.told.length = x.s.e.told.length + 1) ∧ Grow W G G' ∧ Sr w0 b c r G' J rep m' (L.set i y) rv s' (j + 1) w' vars := by
  obtain ⟨r1, r2, -⟩ := hJ i jb hjb
  refine (h.kw.step (fun jb hb => by
    obtain ⟨k, hk⟩ := List.mem_iff_getElem?.1 hb
    exact (hJ k jb hk).2.2) hi hjb hfin (fun s1 s2 hg k jk hne hk => by
    rw [r2] at hg
    rw [(hJ k jk hk).1]
    exact hg.rely hne) hcnt hj fun w1 s1 hS hB hg => hcl w1 s1 hS (fun p hp => ?_) hg).mono ?_
  · obtain ⟨q1, q2⟩ := h.vs p hp
    exact q2.same hB.size (hB.block _ q2.lt (q1.off.x i x hi).1)
  · rintro e w' ⟨G', m', s', y, hd⟩
    refine ⟨G', m', s', y, hd.ret, hd.xb, hd.told, hd.gro, hd.kw, fun p hp => ?_⟩
    obtain ⟨q1, q2⟩ := h.vs p hp
    obtain ⟨r1, r2⟩ := hd.mine p.1 q1
    exact ⟨r1, q2.same hd.size r2⟩
end
end Go.Proofs.YtbcpdkmbbgcfbaaDoor
