/- LexLone answers true at any two texts and any number of lines without words between them. Conditions: the library's own variable is as a start leaves it. -/
import Derived.Test.YtponiboiijgllaaDoorLWalkR
import Derived.Test.YtponiboiijgllaaDoorBWalkE
namespace Go.Proofs.YtponiboiijgllaaDoor
open Go.RowKit
set_option maxRecDepth 100000

/-- Two texts with the byte 10 between them have both's lines. -/
theorem splitNL_join : ∀ (a b : List UInt8), splitNL (a ++ 10 :: b) = splitNL a ++ splitNL b
  | [], b => by simp [splitNL]
  | c :: t, b => by
    have ih := splitNL_join t b
    by_cases h : c.toNat = 10
    · simp only [List.cons_append, splitNL, if_pos h, ih]
    · simp only [List.cons_append, splitNL, if_neg h, ih]
      rcases e : splitNL t with _ | ⟨x, r⟩
      · exact absurd e (splitNL_ne t)
      · rfl
theorem words_remark : wordsL [32, 35, 32, 120] = some [] := by
  rw [wordsL_blank (by decide), wordsL_cons (by decide), if_pos (by decide)]
def repsL (k : Nat) : List UInt8 := (List.replicate k [32, 35, 32, 120, 10]).flatten
theorem repsL_snoc (k : Nat) : repsL (k + 1) = repsL k ++ [32, 35, 32, 120, 10] := by
  unfold repsL
  rw [List.replicate_succ', List.flatten_append]
  simp
theorem repsL_cons (k : Nat) : repsL (k + 1) = [32, 35, 32, 120] ++ 10 :: repsL k := by
  unfold repsL
  rw [List.replicate_succ, List.flatten_cons]
  simp
theorem splitNL_reps (t : List UInt8) : ∀ k, splitNL (repsL k ++ t) = List.replicate k [32, 35, 32, 120] ++ splitNL t
  | 0 => by simp [repsL]
  | k + 1 => by
    have e : repsL (k + 1) ++ t = [32, 35, 32, 120] ++ 10 :: (repsL k ++ t) := by rw [repsL_cons]; simp
    rw [e, splitNL_join, splitNL_reps t k, List.replicate_succ]
    have : splitNL [32, 35, 32, 120] = [[32, 35, 32, 120]] := by decide
    rw [this]
    rfl
theorem badAt_zero : ∀ (X : List (List UInt8)) (no : Nat), 1 ≤ no → (badAt no X = 0 ↔ ∀ l ∈ X, wordsL l ≠ none)
  | [], no, h => by simp [badAt]
  | a :: X, no, h => by
    cases e : wordsL a with
    | none =>
      rw [badAt_none e]
      constructor
      · intro k; omega
      · intro k; exact absurd e (k a (by simp))
    | some u =>
      rw [badAt_some e, badAt_zero X (no + 1) (by omega)]
      constructor
      · intro k l hl
        simp only [List.mem_cons] at hl
        rcases hl with rfl | hl
        · rw [e]; simp
        · exact k l hl
      · intro k l hl
        exact k l (by simp [hl])
theorem wordsL_short : ∀ (k : Nat) (l : List UInt8) (u : List Bx), l.length ≤ k → wordsL l = some u → u.length ≤ l.length
  | k, l, u, hk, h => by
    rcases e : l.drop (sk l) with _ | ⟨c, t⟩
    · rw [wordsL_end e] at h
      cases h
      simp
    · have hl := congrArg List.length e
      rw [List.length_drop, List.length_cons] at hl
      rw [wordsL_of e] at h
      split at h
      · cases h
        simp
      · split at h
        · cases h
        · obtain ⟨u', hu, rfl⟩ := Option.map_eq_some_iff.1 h
          rcases k with _ | k
          · omega
          · have := wordsL_short k _ u' (by rw [List.length_drop]; omega) hu
            rw [List.length_drop] at this
            simp
            omega
theorem goodL_short : ∀ (ls : List (List UInt8)) (no : Nat), ∀ p ∈ goodL no ls, ∃ l ∈ ls, wordsL l = some p.2
  | [], _, p, hp => by simp [goodL] at hp
  | a :: r, no, p, hp => by
    cases h : wordsL a with
    | none =>
      have e : goodL no (a :: r) = goodL (no + 1) r := by simp [goodL, h]
      rw [e] at hp
      obtain ⟨l, h1, h2⟩ := goodL_short r (no + 1) p hp
      exact ⟨l, by simp [h1], h2⟩
    | some u =>
      by_cases hu : u = []
      · subst hu
        rw [goodL_none h] at hp
        obtain ⟨l, h1, h2⟩ := goodL_short r (no + 1) p hp
        exact ⟨l, by simp [h1], h2⟩
      · rw [goodL_some h hu] at hp
        simp only [List.mem_cons] at hp
        rcases hp with rfl | hp
        · exact ⟨a, by simp, h⟩
        · obtain ⟨l, h1, h2⟩ := goodL_short r (no + 1) p hp
          exact ⟨l, by simp [h1], h2⟩
theorem goodL_bound {s : ByteArray} {p : Nat × List Bx} (h : p ∈ goodL 1 (splitNL s.data.toList)) : p.2.length ≤ s.size := by
  obtain ⟨l, h1, h2⟩ := goodL_short _ 1 p h
  have h3 := wordsL_short _ _ _ (Nat.le_refl _) h2
  have h4 := (splitNL_short s.data.toList).2 l h1
  rw [len_data] at h4
  omega
/-- The words of a line, if it has some. -/
def wordsHd (l : List UInt8) : List (List Bx) := match wordsL l with
  | some (b :: u) => [b :: u]
  | _ => []
/-- The words of the lines that have some. -/
def wordsAll (X : List (List UInt8)) : List (List Bx) := X.flatMap wordsHd
theorem wordsAll_good : ∀ (X : List (List UInt8)) (no : Nat), (goodL no X).map (·.2) = wordsAll X
  | [], _ => rfl
  | l :: r, no => by
    have ih := wordsAll_good r (no + 1)
    show _ = wordsHd l ++ wordsAll r
    cases h : wordsL l with
    | none =>
      have e : goodL no (l :: r) = goodL (no + 1) r := by simp [goodL, h]
      rw [e, ih]
      simp [wordsHd, h]
    | some u =>
      cases u with
      | nil =>
        rw [goodL_none h, ih]
        simp [wordsHd, h]
      | cons b u =>
        rw [goodL_some h (by simp), List.map_cons, ih]
        simp [wordsHd, h]
theorem wordsAll_append (X Y : List (List UInt8)) : wordsAll (X ++ Y) = wordsAll X ++ wordsAll Y := List.flatMap_append
theorem wordsAll_reps (k : Nat) : wordsAll (List.replicate k [32, 35, 32, 120]) = [] := by
  unfold wordsAll
  rw [List.flatMap_eq_nil_iff]
  intro l hl
  rw [List.eq_of_mem_replicate hl]
  unfold wordsHd
  rw [words_remark]
theorem whole_bad (X Y : List (List UInt8)) (k : Nat) : badAt 1 (X ++ (List.replicate k [32, 35, 32, 120] ++ Y)) = 0 ↔ badAt 1 X = 0 ∧ badAt 1 Y = 0 := by
  rw [badAt_zero _ 1 (Nat.le_refl _), badAt_zero _ 1 (Nat.le_refl _), badAt_zero _ 1 (Nat.le_refl _)]
  constructor
  · intro h
    exact ⟨fun l hl => h l (by simp [hl]), fun l hl => h l (by simp [hl])⟩
  · rintro ⟨h1, h2⟩ l hl
    rw [List.mem_append, List.mem_append] at hl
    rcases hl with hl | hl | hl
    · exact h1 l hl
    · rw [List.eq_of_mem_replicate hl, words_remark]; simp
    · exact h2 l hl
theorem whole_words (X Y : List (List UInt8)) (k : Nat) : (goodL 1 (X ++ (List.replicate k [32, 35, 32, 120] ++ Y))).map (·.2) = (goodL 1 X).map (·.2) ++ (goodL 1 Y).map (·.2) := by
  rw [wordsAll_good, wordsAll_good, wordsAll_good, wordsAll_append, wordsAll_append, wordsAll_reps, List.nil_append]

/-- What stands between the two texts. -/
def midB : Nat → ByteArray
  | 0 => ⟨#[10]⟩
  | k + 1 => midB k ++ ⟨#[32, 35, 32, 120, 10]⟩
theorem midB_data : ∀ k, (midB k).data.toList = 10 :: repsL k
  | 0 => rfl
  | k + 1 => by
    show (midB k ++ ⟨#[32, 35, 32, 120, 10]⟩).data.toList = _
    rw [ByteArray.data_append, Array.toList_append, midB_data k, repsL_snoc]
    rfl
theorem midB_size (k : Nat) : (midB k).size = 1 + 5 * k := by
  rw [← len_data, midB_data]
  induction k with
  | zero => rfl
  | succ k ih =>
    rw [repsL_snoc]
    simp at *
    omega
theorem whole_lines (s t : ByteArray) (k : Nat) : splitNL ((s ++ midB k) ++ t).data.toList = splitNL s.data.toList ++ (List.replicate k [32, 35, 32, 120] ++ splitNL t.data.toList) := by
  rw [ByteArray.data_append, Array.toList_append, ByteArray.data_append, Array.toList_append, midB_data, List.append_assoc, List.cons_append, splitNL_join, splitNL_reps]

theorem two_keepB {wr w1 w2 : World} {g1 g2 k : Nat} {b : Bx} (h : w1.cell? ⟨g1, k, none⟩ = some b.v ∧ w1.cell? ⟨g2, k, none⟩ = some b.v ∧ g1 < w1.heap.size ∧ g2 < w1.heap.size ∧ Below wr.heap.size wr w1) (hb : Below w1.heap.size w1 w2) :
    w2.cell? ⟨g1, k, none⟩ = some b.v ∧ w2.cell? ⟨g2, k, none⟩ = some b.v ∧ g1 < w2.heap.size ∧ g2 < w2.heap.size ∧ Below wr.heap.size wr w2 := by
  obtain ⟨h1, h2, h3, h4, h5⟩ := h
  exact ⟨keep hb h1 h3, keep hb h2 h4, Nat.lt_of_lt_of_le h3 hb.size, Nat.lt_of_lt_of_le h4 hb.size, h5.trans (hb.mono h5.size)⟩
theorem two_startB (wr : World) {g1 g2 k : Nat} {b : Bx} (h1 : wr.cell? ⟨g1, k, none⟩ = some b.v) (h2 : wr.cell? ⟨g2, k, none⟩ = some b.v) (h3 : g1 < wr.heap.size) (h4 : g2 < wr.heap.size) :
    wr.drew.cell? ⟨g1, k, none⟩ = some b.v ∧ wr.drew.cell? ⟨g2, k, none⟩ = some b.v ∧ g1 < wr.drew.heap.size ∧ g2 < wr.drew.heap.size ∧ Below wr.heap.size wr wr.drew := ⟨h1, h2, h3, h4, drew_below (Below.refl _ _)⟩
theorem compare_self (b : Bx) (w : World) : Calls Tryd.prog 19 #[.agg #[b.v], .agg #[b.v]] w fun e w' => e = .returned (.int .i64 0) ∧ Below w.heap.size w w' := by
  refine (compare_any b b w).mono ?_
  rintro e w' ⟨rfl, hb⟩
  rw [(bcmp_zero b b).2 rfl]
  exact ⟨rfl, hb⟩
/-- What lex.Lines answers of a text of at most 20000 bytes: the error, the lines. -/
theorem lines_either (s : ByteArray) (hs : s.size ≤ 20000) : (badAt 1 (splitNL s.data.toList) = 0 ∧ ∀ w, LibOk w → Calls Tryd.prog 8 #[.string s] w fun e w' => ∃ v, e = .returned (.tuple #[v, .int .i64 0, .int .i64 0]) ∧ SeesL SeesB w' v (goodL 1 (splitNL s.data.toList)) ∧ Below w.heap.size w w') ∨
    (badAt 1 (splitNL s.data.toList) ≠ 0 ∧ ∃ n : Nat, ∀ w, LibOk w → Calls Tryd.prog 8 #[.string s] w fun e w' => e = .returned (.tuple #[.slice none 0 0, .int .i64 n, .int .i64 7]) ∧ Below w.heap.size w w') := by
  by_cases hb : badAt 1 (splitNL s.data.toList) = 0
  · exact .inl ⟨hb, fun w h => lines_good s w hs h hb⟩
  · exact .inr ⟨hb, _, fun w h => lines_bad s w hs h _ hb rfl⟩

end Go.Proofs.YtponiboiijgllaaDoor
