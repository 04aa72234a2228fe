/- Mathematics of rows of entries sorted by their keys, those of one key in the order in which they stood: one such row alone; how it comes of insertions, and of parts. No condition. -/
import Derived.Test.YthglldnhffkefaaEMem
namespace Go.Proofs.Ythglldnhffkefaa
open Go.Op
set_option maxRecDepth 100000

/-- Keys don't fall. -/
def Up (l : List En) : Prop := l.Pairwise fun a b => lt b.key a.key = false
def ofKey (k : ByteArray) (l : List En) : List En := l.filter fun e => decide (e.key = k)
/-- As many entries, and of each key the same ones, in the same order. -/
def Alike (l m : List En) : Prop := l.length = m.length ∧ ∀ k, ofKey k l = ofKey k m
theorem ofKey_append (k : ByteArray) (l m : List En) : ofKey k (l ++ m) = ofKey k l ++ ofKey k m := by simp [ofKey]
theorem Alike.refl (l : List En) : Alike l l := ⟨rfl, fun _ => rfl⟩
theorem Alike.symm {l m : List En} (h : Alike l m) : Alike m l := ⟨h.1.symm, fun k => (h.2 k).symm⟩
theorem Alike.trans {l m n : List En} (h : Alike l m) (g : Alike m n) : Alike l n := ⟨h.1.trans g.1, fun k => (h.2 k).trans (g.2 k)⟩
theorem Alike.append {l m l' m' : List En} (h : Alike l l') (g : Alike m m') : Alike (l ++ m) (l' ++ m') :=
  ⟨by rw [List.length_append, List.length_append, h.1, g.1], fun k => by rw [ofKey_append, ofKey_append, h.2 k, g.2 k]⟩
theorem ofKey_mem {e : En} {l : List En} : e ∈ ofKey e.key l ↔ e ∈ l := by simp [ofKey]
theorem Alike.mem {l m : List En} (h : Alike l m) {e : En} : e ∈ l ↔ e ∈ m := by rw [← ofKey_mem, h.2 e.key, ofKey_mem]
theorem ofKey_cons (k : ByteArray) (e : En) (l : List En) : ofKey k (e :: l) = if e.key = k then e :: ofKey k l else ofKey k l := by
  unfold ofKey
  rw [List.filter_cons]
  by_cases h : e.key = k <;> simp [h]
theorem up_one : ∀ {l m : List En}, Up l → Up m → Alike l m → l = m
  | [], m, _, _, h => by
    have := h.1
    exact (List.eq_nil_of_length_eq_zero (by simpa using this.symm)).symm
  | a :: l, [], _, _, h => by
    have := h.1
    simp at this
  | a :: l, b :: m, hl, hm, h => by
    have h1 : lt b.key a.key = false := by
      rcases List.mem_cons.1 (h.mem.2 (List.mem_cons_self : b ∈ b :: m)) with e | e
      · rw [e]; exact lt_irr _
      · exact (List.pairwise_cons.1 hl).1 b e
    have h2 : lt a.key b.key = false := by
      rcases List.mem_cons.1 (h.mem.1 (List.mem_cons_self : a ∈ a :: l)) with e | e
      · rw [e]; exact lt_irr _
      · exact (List.pairwise_cons.1 hm).1 a e
    have h3 : a.key = b.key := lt_total h2 h1
    have h4 : a = b := by
      have := h.2 a.key
      rw [ofKey_cons, ofKey_cons, if_pos rfl, if_pos h3.symm] at this
      exact (List.cons.inj this).1
    subst h4
    have h5 : Alike l m := ⟨by simpa using h.1, fun k => by
      have := h.2 k
      rw [ofKey_cons, ofKey_cons] at this
      by_cases e : a.key = k
      · rw [if_pos e, if_pos e] at this
        exact (List.cons.inj this).2
      · rw [if_neg e, if_neg e] at this
        exact this⟩
    rw [up_one (List.Pairwise.of_cons hl) (List.Pairwise.of_cons hm) h5]

theorem up_append {l m : List En} : Up (l ++ m) ↔ Up l ∧ Up m ∧ ∀ a ∈ l, ∀ b ∈ m, lt b.key a.key = false := by
  unfold Up
  rw [List.pairwise_append]
/-- Two rows, one behind the other, that have no key in common, changed. -/
theorem alike_swap {x y : List En} (h : ∀ a ∈ x, ∀ b ∈ y, a.key ≠ b.key) : Alike (x ++ y) (y ++ x) := by
  refine ⟨by simp [Nat.add_comm], fun k => ?_⟩
  rw [ofKey_append, ofKey_append]
  have e : ofKey k x = [] ∨ ofKey k y = [] := by
    rcases Classical.em (ofKey k x = []) with h1 | h1
    · exact .inl h1
    · right
      obtain ⟨a, ha⟩ := List.exists_mem_of_ne_nil _ h1
      unfold ofKey at ha
      rw [List.mem_filter] at ha
      unfold ofKey
      rw [List.filter_eq_nil_iff]
      intro b hb e
      exact h a ha.1 b hb ((by simpa using ha.2 : a.key = k).trans (by simpa using e : b.key = k).symm)
  rcases e with e | e <;> simp [e]

/-- An entry put in behind all that aren't greater. -/
def stays (x : En) (e : En) : Bool := !lt x.key e.key
def ins (l : List En) (x : En) : List En := l.takeWhile (stays x) ++ x :: l.dropWhile (stays x)
def sortL (l : List En) : List En := l.foldl ins []
theorem takeW_imp {p : En → Bool} : ∀ {l : List En} {x : En}, x ∈ l.takeWhile p → p x = true
  | [], _, h => by simp at h
  | y :: l, x, h => by
    rw [List.takeWhile_cons] at h
    by_cases hy : p y = true
    · rw [if_pos hy] at h
      rcases List.mem_cons.1 h with rfl | h
      · exact hy
      · exact takeW_imp h
    · rw [if_neg hy] at h
      simp at h
theorem dropW_gt {x : En} : ∀ {l : List En}, Up l → ∀ e ∈ l.dropWhile (stays x), lt x.key e.key = true
  | [], _, e, h => by simp at h
  | y :: l, hr, e, h => by
    rw [List.dropWhile_cons] at h
    by_cases hx : stays x y = true
    · rw [if_pos hx] at h
      exact dropW_gt (List.Pairwise.of_cons hr) e h
    · rw [if_neg hx] at h
      have hy : lt x.key y.key = true := by unfold stays at hx; simpa using hx
      rcases List.mem_cons.1 h with rfl | h
      · exact hy
      · exact lt_le hy ((List.pairwise_cons.1 hr).1 e h)
theorem up_ins {l : List En} (h : Up l) (x : En) : Up (ins l x) := by
  unfold ins
  have hs : Up (l.takeWhile (stays x) ++ l.dropWhile (stays x)) := by rw [List.takeWhile_append_dropWhile]; exact h
  obtain ⟨h1, h2, h3⟩ := up_append.1 hs
  refine up_append.2 ⟨h1, List.pairwise_cons.2 ⟨fun b hb => lt_asym (dropW_gt h b hb), h2⟩, fun a ha b hb => ?_⟩
  rcases List.mem_cons.1 hb with rfl | hb
  · have := takeW_imp ha
    unfold stays at this
    simpa using this
  · exact h3 a ha b hb
theorem alike_ins {l : List En} (h : Up l) (x : En) : Alike (l ++ [x]) (ins l x) := by
  have e : l ++ [x] = l.takeWhile (stays x) ++ (l.dropWhile (stays x) ++ [x]) := by rw [← List.append_assoc, List.takeWhile_append_dropWhile]
  rw [e]
  unfold ins
  refine (Alike.refl _).append ?_
  have := alike_swap (x := l.dropWhile (stays x)) (y := [x]) (fun a ha b hb => by
    rw [List.mem_singleton] at hb
    subst hb
    intro e
    have := dropW_gt h a ha
    rw [e, lt_irr] at this
    cases this)
  simpa using this
theorem sort_snoc (l : List En) (x : En) : sortL (l ++ [x]) = ins (sortL l) x := by simp [sortL]
theorem sort_both (l : List En) : Up (sortL l) ∧ Alike l (sortL l) := by
  have : ∀ n (l : List En), l.length = n → Up (sortL l) ∧ Alike l (sortL l) := by
    intro n
    induction n with
    | zero =>
      intro l h
      rw [List.eq_nil_of_length_eq_zero h]
      exact ⟨List.Pairwise.nil, Alike.refl _⟩
    | succ n ih =>
      intro l h
      obtain ⟨m, x, rfl⟩ : ∃ m x, l = m ++ [x] := by
        have h0 : l ≠ [] := by intro e; rw [e] at h; simp at h
        exact ⟨l.dropLast, l.getLast h0, (List.dropLast_concat_getLast h0).symm⟩
      obtain ⟨h1, h2⟩ := ih m (by simpa using h)
      rw [sort_snoc]
      exact ⟨up_ins h1 x, (h2.append (Alike.refl [x])).trans (alike_ins h1 x)⟩
  exact this _ l rfl
theorem up_sort (l : List En) : Up (sortL l) := (sort_both l).1
theorem alike_sort (l : List En) : Alike l (sortL l) := (sort_both l).2
theorem sort_length (l : List En) : (sortL l).length = l.length := (alike_sort l).1.symm
theorem sort_is {l m : List En} (h : Up m) (g : Alike l m) : sortL l = m := up_one (up_sort l) h ((alike_sort l).symm.trans g)
theorem sort_up {l : List En} (h : Up l) : sortL l = l := sort_is h (Alike.refl l)
theorem sort_alike {l m : List En} (g : Alike l m) : sortL l = sortL m := sort_is (up_sort m) (g.trans (alike_sort m))
theorem sort_sorts (l m : List En) : sortL (sortL l ++ sortL m) = sortL (l ++ m) := sort_alike ((alike_sort l).append (alike_sort m)).symm
theorem mem_sort {l : List En} {e : En} : e ∈ sortL l ↔ e ∈ l := (alike_sort l).mem.symm

/-- An insertion, told by where the new entry comes to stand. -/
theorem ins_at {s1 s2 : List En} {x : En} (h1 : ∀ e ∈ s2, lt x.key e.key = true) (h2 : ∀ e, s1.getLast? = some e → lt x.key e.key = false) (hu : Up (s1 ++ s2)) : ins (s1 ++ s2) x = s1 ++ x :: s2 := by
  obtain ⟨u1, u2, u3⟩ := up_append.1 hu
  have h3 : ∀ e ∈ s1, lt x.key e.key = false := by
    intro e he
    have h0 : s1 ≠ [] := List.ne_nil_of_mem he
    obtain ⟨t, z, ht⟩ : ∃ t z, s1 = t ++ [z] := ⟨s1.dropLast, s1.getLast h0, (List.dropLast_concat_getLast h0).symm⟩
    subst ht
    have hz := h2 z (by simp)
    rcases List.mem_append.1 he with he | he
    · exact le_trans ((up_append.1 u1).2.2 e he z (by simp)) hz
    · rw [List.mem_singleton.1 he]; exact hz
  refine up_one (up_ins hu x) ?_ ((alike_ins hu x).symm.trans ?_)
  · refine up_append.2 ⟨u1, List.pairwise_cons.2 ⟨fun b hb => lt_asym (h1 b hb), u2⟩, fun a ha b hb => ?_⟩
    rcases List.mem_cons.1 hb with rfl | hb
    · exact h3 a ha
    · exact u3 a ha b hb
  · rw [List.append_assoc]
    refine (Alike.refl _).append ?_
    have := alike_swap (x := s2) (y := [x]) (fun a ha b hb => by
      rw [List.mem_singleton] at hb
      subst hb
      intro e
      have := h1 a ha
      rw [e, lt_irr] at this
      cases this)
    simpa using this

/-- Two sorted rows, cut where what is ahead in the second is less than what is behind in the first. -/
theorem merge_parts {x1 x2 y1 y2 : List En} (hx : Up (x1 ++ x2)) (hy : Up (y1 ++ y2)) (h1 : ∀ u ∈ y1, ∀ v ∈ x2, lt u.key v.key = true) (h2 : ∀ u ∈ x1, ∀ v ∈ y2, lt v.key u.key = false) :
    sortL (x1 ++ x2 ++ (y1 ++ y2)) = sortL (x1 ++ y1) ++ sortL (x2 ++ y2) := by
  obtain ⟨a1, a2, a3⟩ := up_append.1 hx
  obtain ⟨b1, b2, b3⟩ := up_append.1 hy
  refine sort_is (up_append.2 ⟨up_sort _, up_sort _, fun a ha b hb => ?_⟩) ?_
  · rw [mem_sort, List.mem_append] at ha hb
    rcases ha with ha | ha <;> rcases hb with hb | hb
    · exact a3 a ha b hb
    · exact h2 a ha b hb
    · exact lt_asym (h1 a ha b hb)
    · exact b3 a ha b hb
  · have e1 : Alike (x1 ++ x2 ++ (y1 ++ y2)) (x1 ++ y1 ++ (x2 ++ y2)) := by
      rw [List.append_assoc, List.append_assoc]
      refine (Alike.refl _).append ?_
      rw [← List.append_assoc, ← List.append_assoc]
      refine Alike.append ?_ (Alike.refl _)
      refine alike_swap fun a ha b hb e => ?_
      have := h1 b hb a ha
      rw [e, lt_irr] at this
      cases this
    exact e1.trans ((alike_sort _).append (alike_sort _))

/-- Each part of so many entries, sorted. -/
def chunks (s : Nat) : Nat → List En → List En
  | 0, l => sortL l
  | f + 1, l => if l.length ≤ s then sortL l else sortL (l.take s) ++ chunks s f (l.drop s)
def chunk (s : Nat) (l : List En) : List En := chunks s l.length l
theorem chunks_eq {s : Nat} (hs : 0 < s) : ∀ f g (l : List En), l.length ≤ f → l.length ≤ g → chunks s f l = chunks s g l
  | 0, g, l, h, _ => by
    cases g with
    | zero => rfl
    | succ g =>
      show sortL l = if l.length ≤ s then sortL l else _
      rw [if_pos (by omega)]
  | f + 1, 0, l, _, h => by
    show (if l.length ≤ s then sortL l else _) = sortL l
    rw [if_pos (by omega)]
  | f + 1, g + 1, l, h1, h2 => by
    show (if l.length ≤ s then sortL l else sortL (l.take s) ++ chunks s f (l.drop s)) = if l.length ≤ s then sortL l else sortL (l.take s) ++ chunks s g (l.drop s)
    by_cases h : l.length ≤ s
    · rw [if_pos h, if_pos h]
    · rw [if_neg h, if_neg h, chunks_eq hs f g _ (by rw [List.length_drop]; omega) (by rw [List.length_drop]; omega)]
theorem chunk_few {s : Nat} {l : List En} (h : l.length ≤ s) : chunk s l = sortL l := by
  unfold chunk
  cases e : l.length with
  | zero => rfl
  | succ f =>
    show (if l.length ≤ s then sortL l else _) = _
    rw [if_pos h]
theorem chunk_more {s : Nat} (hs : 0 < s) (l : List En) : chunk s l = sortL (l.take s) ++ chunk s (l.drop s) := by
  by_cases h2 : l.length ≤ s
  · rw [chunk_few h2, List.take_of_length_le h2, List.drop_eq_nil_of_le h2]
    show _ = sortL l ++ chunk s []
    rw [chunk_few (by simp)]
    simp [sortL]
  · unfold chunk
    obtain ⟨f, hf⟩ : ∃ f, l.length = f + 1 := ⟨l.length - 1, by omega⟩
    rw [hf]
    show (if l.length ≤ s then sortL l else sortL (l.take s) ++ chunks s f (l.drop s)) = _
    rw [if_neg h2, chunks_eq hs f (l.drop s).length _ (by rw [List.length_drop]; omega) (Nat.le_refl _)]
theorem chunk_two {s : Nat} (hs : 0 < s) (l : List En) : chunk s l = sortL (l.take s) ++ (sortL ((l.drop s).take s) ++ chunk s (l.drop (2 * s))) ∧ chunk (2 * s) l = sortL (sortL (l.take s) ++ sortL ((l.drop s).take s)) ++ chunk (2 * s) (l.drop (2 * s)) := by
  refine ⟨?_, ?_⟩
  · rw [chunk_more hs l, chunk_more hs (l.drop s), List.drop_drop, show s + s = 2 * s by omega]
  · rw [chunk_more (by omega) l, sort_sorts]
    congr 2
    rw [← List.take_add, show s + s = 2 * s by omega]
theorem chunk_last {s : Nat} (hs : 0 < s) {l : List En} (h1 : s < l.length) (h2 : l.length < 2 * s) : chunk s l = sortL (l.take s) ++ sortL (l.drop s) ∧ chunk (2 * s) l = sortL (sortL (l.take s) ++ sortL (l.drop s)) := by
  refine ⟨?_, ?_⟩
  · rw [chunk_more hs l, chunk_few (l := l.drop s) (by rw [List.length_drop]; omega)]
  · rw [chunk_few (by omega), sort_sorts, List.take_append_drop]
theorem chunk_length {s : Nat} (hs : 0 < s) : ∀ n (l : List En), l.length ≤ n → (chunk s l).length = l.length
  | 0, l, h => by
    rw [chunk_few (by omega), sort_length]
  | n + 1, l, h => by
    by_cases h2 : l.length ≤ s
    · rw [chunk_few h2, sort_length]
    · rw [chunk_more hs l, List.length_append, sort_length, chunk_length hs n _ (by rw [List.length_drop]; omega), List.length_take, List.length_drop]
      omega
end Go.Proofs.Ythglldnhffkefaa
