/- No cell is told twice, none is lost: ghosts. No condition. -/
import Derived.Test.YtbcpdkmbbgcfbaaDoorKe
namespace Go.Proofs.YtbcpdkmbbgcfbaaDoor
open Go.RowKit Go.Op
set_option maxRecDepth 100000

theorem nodup_le : ∀ {l1 l2 : List Int}, l1.Nodup → (∀ x, x ∈ l1 → x ∈ l2) → l1.length ≤ l2.length
  | [], _, _, _ => Nat.zero_le _
  | a :: t, l2, hn, hs => by
    have h1 := hs a List.mem_cons_self
    have hn2 := List.nodup_cons.1 hn
    have h2 := nodup_le (l1 := t) (l2 := l2.erase a) hn2.2 fun x hx => (List.mem_erase_of_ne (fun e : x = a => hn2.1 (by rw [← e]; exact hx))).2 (hs x (List.mem_cons_of_mem _ hx))
    rw [List.length_erase_of_mem h1] at h2
    have := List.length_pos_of_mem h1
    simp only [List.length_cons]
    omega
/-- How many are left by a version. -/
def leftN (l : List (Int × Rv × Int)) (v : Int) : Nat := min (ixv l v + 1) l.length
theorem leftOf_is (l : List (Int × Rv × Int)) (v : Int) : leftOf v (l.map fun x => x.2.1.ver) = (leftN l v : Int) := by
  have hp := posOf_ge v (l.map fun x => x.2.1.ver)
  rw [List.length_map] at hp
  unfold leftOf leftN ixv
  rw [List.length_map]
  by_cases h : posOf v (l.map fun x => x.2.1.ver) < 0
  · rw [if_pos h, if_pos h]
    omega
  · rw [if_neg h, if_neg h]
    omega
/-- What is told of a machine's cut. -/
def toldOf (o : Option (List Int × Int)) : List Int := match o with
  | some x => x.1
  | none => []
section
variable {m0 : M} {l : List (Int × Rv × Int)} {hd : Int} {vs : List Int} {C : Int} {j : Nat} {m : M} {s : Ow} {k n : Nat}
/-- Behind all. -/
structure AllCut (l : List (Int × Rv × Int)) (vs : List Int) (k n : Nat) (s : Ow) (f : Nat → Option (List Int × Int)) : Prop where
  fin : ∀ o, o < k → CutFin l (ixs l vs) o (f o) s
  own : ∀ (i o : Nat), s i = some o → ixs l vs o ≤ i ∧ i + 1 < l.length
  len : vs.length = k
  mn : ∀ o, o < k → n ≤ ixs l vs o + 1
  at_ : ∃ o, o < k ∧ n = min (ixs l vs o + 1) l.length
variable {f : Nat → Option (List Int × Int)}
theorem AllCut.lt (h : AllCut l vs k n s f) {i o : Nat} (ho : s i = some o) : o < k := by
  rcases Nat.lt_or_ge o k with h1 | h1
  · exact h1
  · obtain ⟨q1, q2⟩ := h.own i o ho
    have : ixs l vs o = l.length := by
      unfold ixs
      rw [List.getElem?_eq_none (by rw [h.len]; exact h1)]
    omega
theorem AllCut.ge (h : AllCut l vs k n s f) {i : Nat} (hi : s i ≠ none) : n ≤ i + 1 ∧ i + 1 < l.length := by
  obtain ⟨o, ho⟩ := Option.ne_none_iff_exists'.1 hi
  obtain ⟨q1, q2⟩ := h.own i o ho
  have := h.mn o (h.lt ho)
  exact ⟨by omega, q2⟩
theorem AllCut.has (h : AllCut l vs k n s f) (hn1 : 1 ≤ n) : ∀ (d i : Nat), i + 1 = n + d → i + 1 < l.length → s i ≠ none
  | 0, i, hi, hl => by
    obtain ⟨o, ho, e⟩ := h.at_
    have e2 : ixs l vs o = i := by omega
    obtain ⟨cs, h1, h2⟩ := h.fin o ho
    rcases h2 with ⟨_, _, q⟩ | ⟨e3, q1, q2, q3, q4, q5⟩
    · rcases q with q | ⟨j, o2, j1, j2, j3⟩
      · omega
      · have := h.mn o2 (h.lt j2)
        omega
    · by_cases h3 : e3 = i
      · subst h3
        rcases q5 with q | q
        · exact q
        · omega
      · have := (q4 i).2 ⟨by omega, by omega⟩
        rw [this]
        simp
  | d + 1, i, hi, hl => by
    have h1 := AllCut.has h hn1 d (i - 1) (by omega) (by omega)
    obtain ⟨o, ho⟩ := Option.ne_none_iff_exists'.1 h1
    obtain ⟨cs, -, h2⟩ := h.fin o (h.lt ho)
    rcases h2 with ⟨_, q, _⟩ | ⟨e3, q1, q2, q3, q4, q5⟩
    · exact absurd ho (q _)
    · have h4 := (q4 (i - 1)).1 ho
      by_cases h3 : e3 = i
      · subst h3
        rcases q5 with q | q
        · exact q
        · omega
      · have := (q4 i).2 ⟨by omega, by omega⟩
        rw [this]
        simp
/-- What a cut told: the cells of the ages behind the prevs that it took. -/
theorem CutFin.mem {o : Option (List Int × Int)} {ix : Nat → Nat} {kk : Nat} (h : CutFin l ix kk o s) (c : Int) : c ∈ toldOf o ↔ ∃ (i : Nat) (x : Int × Rv × Int), s i = some kk ∧ l[i + 1]? = some x ∧ (c = x.1 ∨ c = x.2.2) := by
  obtain ⟨cs, rfl, h2⟩ := h
  show c ∈ cs ↔ _
  rcases h2 with ⟨rfl, q, _⟩ | ⟨e, q1, q2, rfl, q4, _⟩
  · exact ⟨fun hc => (by cases hc), fun ⟨i, x, h1, _⟩ => absurd h1 (q i)⟩
  · rw [flat_mem]
    constructor
    · rintro ⟨x, hx, hc⟩
      obtain ⟨t, ht⟩ := List.mem_iff_getElem?.1 hx
      have htl := (List.getElem?_eq_some_iff.1 ht).1
      rw [List.length_take] at htl
      rw [List.getElem?_take, if_pos (by omega), List.getElem?_drop] at ht
      exact ⟨ix kk + t, x, (q4 _).2 ⟨by omega, by omega⟩, by rw [show ix kk + t + 1 = ix kk + 1 + t by omega]; exact ht, hc⟩
    · rintro ⟨i, x, h1, h2, hc⟩
      have := (q4 i).1 h1
      refine ⟨x, List.mem_iff_getElem?.2 ⟨i - ix kk, ?_⟩, hc⟩
      rw [List.getElem?_take, if_pos (by omega), List.getElem?_drop, show ix kk + 1 + (i - ix kk) = i + 1 by omega]
      exact h2
theorem CutFin.nd {o : Option (List Int × Int)} {ix : Nat → Nat} {kk : Nat} (h : CutFin l ix kk o s) (hn : (flat l).Nodup) : (toldOf o).Nodup := by
  obtain ⟨cs, rfl, h2⟩ := h
  show cs.Nodup
  rcases h2 with ⟨rfl, _⟩ | ⟨e, q1, q2, rfl, _⟩
  · exact List.nodup_nil
  · have e1 : flat ((l.drop (ix kk + 1)).take (e - ix kk)) = (flat (l.drop (ix kk + 1))).take (2 * (e - ix kk)) := by
      generalize l.drop (ix kk + 1) = q
      generalize e - ix kk = t
      induction t generalizing q with
      | zero => simp [flat]
      | succ t ih =>
        cases q with
        | nil => simp [flat]
        | cons x q =>
          rw [List.take_succ_cons, show 2 * (t + 1) = 2 * t + 1 + 1 by omega]
          show x.1 :: x.2.2 :: flat (q.take t) = _
          rw [ih]
          rfl
    rw [e1, flat_drop]
    exact ((List.take_sublist _ _).trans (List.drop_sublist _ _)).nodup hn
/-- Unlike ages have unlike cells. -/
theorem flat_unlike (hn : (flat l).Nodup) {i t : Nat} {x z : Int × Rv × Int} {c : Int} (hx : l[i]? = some x) (hz : l[t]? = some z) (h1 : c = x.1 ∨ c = x.2.2) (h2 : c = z.1 ∨ c = z.2.2) : i = t := by
  obtain ⟨a1, a2⟩ := flat_get l i x hx
  obtain ⟨b1, b2⟩ := flat_get l t z hz
  have key : ∀ {p q : Nat}, (flat l)[p]? = some c → (flat l)[q]? = some c → p = q := fun {p q} hp hq => (List.getElem?_inj (List.getElem?_eq_some_iff.1 hp).1 hn).1 (hp.trans hq.symm)
  rcases h1 with rfl | rfl <;> rcases h2 with e | e
  · have := key a1 (e ▸ b1); omega
  · have := key a1 (e ▸ b2); omega
  · have := key a2 (e ▸ b1); omega
  · have := key a2 (e ▸ b2); omega
/-- All that was told by the first ones. -/
def toldTo (f : Nat → Option (List Int × Int)) : Nat → List Int
  | 0 => []
  | i + 1 => toldTo f i ++ toldOf (f i)
theorem toldTo_mem {c : Int} : ∀ {i : Nat}, c ∈ toldTo f i ↔ ∃ o, o < i ∧ c ∈ toldOf (f o)
  | 0 => ⟨fun h => (by cases h), fun ⟨o, h, _⟩ => (by omega)⟩
  | i + 1 => by
    rw [toldTo, List.mem_append, toldTo_mem]
    constructor
    · rintro (⟨o, h1, h2⟩ | h)
      · exact ⟨o, by omega, h2⟩
      · exact ⟨i, by omega, h⟩
    · rintro ⟨o, h1, h2⟩
      by_cases e : o = i
      · subst e; exact .inr h2
      · exact .inl ⟨o, by omega, h2⟩
theorem toldTo_nd (hf : ∀ o, o < k → CutFin l (ixs l vs) o (f o) s) (hn : (flat l).Nodup) : ∀ i, i ≤ k → (toldTo f i).Nodup
  | 0, _ => List.nodup_nil
  | i + 1, hi => by
    rw [toldTo]
    refine List.nodup_append.2 ⟨toldTo_nd hf hn i (by omega), (hf i (by omega)).nd hn, fun a ha b hb e => ?_⟩
    subst e
    obtain ⟨o, h1, h2⟩ := toldTo_mem.1 ha
    obtain ⟨p, x, s1, x1, x2⟩ := ((hf o (by omega)).mem a).1 h2
    obtain ⟨q, z, s2, z1, z2⟩ := ((hf i (by omega)).mem a).1 hb
    have := flat_unlike hn x1 z1 x2 z2
    obtain rfl : p = q := by omega
    rw [s1] at s2
    cases s2
    omega
/-- Each handle behind what is left is told. -/
theorem AllCut.told (h : AllCut l vs k n s f) {i : Nat} {x : Int × Rv × Int} {c : Int} (hx : l[i]? = some x) (hi : n ≤ i) (h1 : 1 ≤ n) (hc : c = x.1 ∨ c = x.2.2) : c ∈ toldTo f k := by
  have hl := (List.getElem?_eq_some_iff.1 hx).1
  have hs := h.has h1 (i - n) (i - 1) (by omega) (by omega)
  obtain ⟨o, ho⟩ := Option.ne_none_iff_exists'.1 hs
  exact toldTo_mem.2 ⟨o, h.lt ho, ((h.fin o (h.lt ho)).mem c).2 ⟨i - 1, x, ho, by rw [show i - 1 + 1 = i by omega]; exact hx, hc⟩⟩
/-- Just so many. -/
theorem AllCut.length (h : AllCut l vs k n s f) (h1 : 1 ≤ n) (hn : (flat l).Nodup) : (toldTo f k).length = 2 * (l.length - n) := by
  have e1 := flat_length (l.drop n)
  rw [List.length_drop] at e1
  rw [← e1]
  refine Nat.le_antisymm (nodup_le (toldTo_nd h.fin hn k (Nat.le_refl _)) fun c hc => ?_) (nodup_le ?_ fun c hc => ?_)
  · obtain ⟨o, o1, o2⟩ := toldTo_mem.1 hc
    obtain ⟨p, x, s1, x1, x2⟩ := ((h.fin o o1).mem c).1 o2
    have := h.ge (i := p) (by rw [s1]; simp)
    refine flat_mem.2 ⟨x, List.mem_iff_getElem?.2 ⟨p + 1 - n, ?_⟩, x2⟩
    rw [List.getElem?_drop, show n + (p + 1 - n) = p + 1 by omega]
    exact x1
  · rw [flat_drop]
    exact (List.drop_sublist _ _).nodup hn
  · obtain ⟨x, hx, hc⟩ := flat_mem.1 hc
    obtain ⟨t, ht⟩ := List.mem_iff_getElem?.1 hx
    rw [List.getElem?_drop] at ht
    exact h.told ht (by omega) h1 hc
/-- What is left is the chain's first part. -/
theorem AllCut.ch (h : AllCut l vs k n s f) (b : Base m0 l hd) (hy : Yo m0 l hd (ixs l vs) C j m s) (h1 : 1 ≤ n) (hnl : n ≤ l.length) : Ch m (topOf l) (l.take n) := by
  have hs : ∀ c, m.look c = if c ∈ prevs (l.drop (n - 1)) then some (.word 0) else m0.look c := fun c => by
    by_cases hc : c ∈ prevs l
    · obtain ⟨x, hx, rfl⟩ := List.mem_map.1 hc
      obtain ⟨i, hi⟩ := List.mem_iff_getElem?.1 hx
      have hil := (List.getElem?_eq_some_iff.1 hi).1
      rw [hy.prev i x hi]
      by_cases h2 : n - 1 ≤ i
      · rw [if_pos (show x.2.2 ∈ prevs (l.drop (n - 1)) from List.mem_map.2 ⟨x, List.mem_iff_getElem?.2 ⟨i - (n - 1), by rw [List.getElem?_drop, show n - 1 + (i - (n - 1)) = i by omega]; exact hi⟩, rfl⟩)]
        by_cases h3 : i + 1 < l.length
        · rw [if_neg (h.has h1 (i + 1 - n) i (by omega) h3)]
        · have : nxt l i = 0 := by
            unfold nxt
            rw [List.getElem?_eq_none (by omega)]
          rw [this]
          split <;> rfl
      · have h4 : s i = none := by
          cases h5 : s i with
          | none => rfl
          | some o => have := h.ge (i := i) (by rw [h5]; simp); omega
        rw [if_pos h4, if_neg, prev_nxt b.ch hi]
        intro e
        obtain ⟨z, hz, e2⟩ := List.mem_map.1 e
        obtain ⟨t, ht⟩ := List.mem_iff_getElem?.1 hz
        rw [List.getElem?_drop] at ht
        have := prev_unlike b.nd hi ht e2.symm
        omega
    · rw [hy.same c hc, if_neg (fun e => hc (prevs_drop e))]
  have := b.ch.cut (n - 1) b.nd hs (by omega)
  rw [show n - 1 + 1 = n by omega] at this
  exact this
end
end Go.Proofs.YtbcpdkmbbgcfbaaDoor
