/- Plain mathematics for layer 3 (lex): numbers, names, words, the words of a line, the lines of a text; where the reference ends a word the code does, as far as it is one. No condition. -/
import Derived.Test.YtponiboiijgllaaDoorLMathA
import Derived.Test.YtponiboiijgllaaDoorBWalkA
namespace Go.Proofs.YtponiboiijgllaaDoor
open Go

def isDig (c : UInt8) : Bool := decide (48 ≤ c.toNat ∧ c.toNat ≤ 57)
def isLet (c : UInt8) : Bool := decide (97 ≤ c.toNat ∧ c.toNat ≤ 122)
def valL (l : List UInt8) : Nat := l.foldl (fun n c => 10 * n + (c.toNat - 48)) 0
theorem valL_snoc (l : List UInt8) (c : UInt8) : valL (l ++ [c]) = 10 * valL l + (c.toNat - 48) := by simp [valL]
theorem valL_lt : ∀ (n : Nat) (l : List UInt8), l.length = n → (∀ c ∈ l, isDig c = true) → valL l < 10 ^ n
  | 0, l, h, _ => by
    obtain rfl := List.eq_nil_of_length_eq_zero h
    simp [valL]
  | n + 1, l, h, hd => by
    obtain ⟨m, c, rfl⟩ : ∃ m c, l = m ++ [c] := ⟨l.dropLast, l.getLast (by rintro rfl; simp at h), (List.dropLast_concat_getLast _).symm⟩
    have ih := valL_lt n m (by simpa using h) (fun x hx => hd x (by simp [hx]))
    have hc := hd c (by simp)
    simp [isDig] at hc
    rw [valL_snoc, Nat.pow_succ]
    omega
theorem valL_bd {l : List UInt8} (h : l.length ≤ 15) (hd : ∀ c ∈ l, isDig c = true) : valL l < 1000000000000000 := by
  have h1 := valL_lt l.length l rfl hd
  have h2 : 10 ^ l.length ≤ 10 ^ 15 := Nat.pow_le_pow_right (by omega) h
  have h3 : (10 : Nat) ^ 15 = 1000000000000000 := rfl
  omega

/-- The digits of a number: what stands behind the sign - . -/
def digL (l : List UInt8) : List UInt8 := if l.head? = some 45 then l.drop 1 else l
def numL (l : List UInt8) : Option Int :=
  if (digL l).length < 1 ∨ 15 < (digL l).length ∨ ((digL l).head? = some 48 ∧ 1 < l.length) then none
  else if (digL l).all isDig then some (if (digL l).length < l.length then -(valL (digL l) : Int) else valL (digL l)) else none
def okAt (i : Nat) (c : UInt8) : Bool := isLet c || (decide (0 < i) && isDig c)
def nameFrom : Nat → List UInt8 → Bool
  | _, [] => true
  | i, c :: t => okAt i c && nameFrom (i + 1) t
def nameL (l : List UInt8) : Bool := decide (1 ≤ l.length ∧ l.length ≤ 20) && nameFrom 0 l
theorem nameFrom_cons (i : Nat) (c : UInt8) (t : List UInt8) : nameFrom i (c :: t) = (okAt i c && nameFrom (i + 1) t) := rfl
theorem numL_nil : numL [] = none := by simp [numL, digL]
theorem nameL_nil : nameL [] = false := by simp [nameL]
theorem numL_quote (t : List UInt8) : numL (34 :: t) = none := by
  have : digL (34 :: t) = 34 :: t := by simp [digL]
  unfold numL
  rw [this]
  split
  · rfl
  · simp [isDig]
theorem nameL_quote (t : List UInt8) : nameL (34 :: t) = false := by simp [nameL, nameFrom_cons, okAt, isLet, isDig]

def wordL (l : List UInt8) : Option Bx :=
  match unquoteL l with
  | some t => some (.txt ⟨t.toArray⟩)
  | none => match numL l with
    | some n => some (.num n)
    | none => if nameL l then some (.nam ⟨l.toArray⟩) else none
theorem unquote_head {l t : List UInt8} (h : unquoteL l = some t) : l.head? = some 34 := by
  unfold unquoteL at h
  split at h
  · rename_i k; exact k.2.1
  · cases h
theorem wordL_nil : wordL [] = none := by
  have : unquoteL [] = none := by simp [unquoteL]
  simp [wordL, this, numL_nil, nameL_nil]
theorem wordL_quote (t : List UInt8) : wordL (34 :: t) = (unquoteL (34 :: t)).map fun x => .txt ⟨x.toArray⟩ := by
  unfold wordL
  cases unquoteL (34 :: t) with
  | some x => rfl
  | none => rw [numL_quote, nameL_quote]; rfl
theorem wordL_plain {l : List UInt8} (h : l.head? ≠ some 34) : wordL l = match numL l with
    | some n => some (.num n)
    | none => if nameL l then some (.nam ⟨l.toArray⟩) else none := by
  unfold wordL
  cases e : unquoteL l with
  | some x => exact absurd (unquote_head e) h
  | none => rfl

/-- How many bytes the word has that begins here. -/
def wlen (m : List UInt8) : Nat := tlen m + nb (m.drop (tlen m))
theorem wlen_le (m : List UInt8) : wlen m ≤ m.length := by
  have h1 := tlen_le m
  have h2 := nb_le (m.drop (tlen m))
  rw [List.length_drop] at h2
  unfold wlen
  omega
/-- The reference's: 0: a text has no end. -/
def rend (m : List UInt8) : Nat := match m with
  | [] => 0
  | c :: t => if c.toNat = 34 then (match qlen false t with | some n => n + 1 | none => 0) else nb (c :: t)

def wordsL (l : List UInt8) : Option (List Bx) :=
  match _h : l.drop (sk l) with
  | [] => some []
  | c :: t => if c.toNat = 35 then some [] else
    match wordL ((c :: t).take (wlen (c :: t))) with
    | none => none
    | some b => (wordsL (t.drop (wlen (c :: t) - 1))).map (b :: ·)
termination_by l.length
decreasing_by
  have h1 := congrArg List.length _h
  simp at h1
  simp
  omega
theorem wordsL_end {l : List UInt8} (h : l.drop (sk l) = []) : wordsL l = some [] := by
  rw [wordsL]
  split
  · rfl
  · rename_i k; rw [h] at k; cases k
theorem wordsL_of {l : List UInt8} {c : UInt8} {t : List UInt8} (h : l.drop (sk l) = c :: t) : wordsL l = if c.toNat = 35 then some [] else
    match wordL ((c :: t).take (wlen (c :: t))) with
    | none => none
    | some b => (wordsL (t.drop (wlen (c :: t) - 1))).map (b :: ·) := by
  rw [wordsL]
  split
  · rename_i k; rw [h] at k; cases k
  · rename_i c' t' k
    rw [h] at k
    cases k
    rfl
theorem wordsL_blank {c : UInt8} {t : List UInt8} (h : isBl c = true) : wordsL (c :: t) = wordsL t := by
  have e : (c :: t).drop (sk (c :: t)) = t.drop (sk t) := by rw [sk_cons, if_pos h, List.drop_succ_cons]
  rcases h2 : t.drop (sk t) with _ | ⟨d, u⟩
  · rw [wordsL_end (e.trans h2), wordsL_end h2]
  · rw [wordsL_of (e.trans h2), wordsL_of h2]
theorem wordsL_cons {c : UInt8} {t : List UInt8} (h : isBl c = false) : wordsL (c :: t) = if c.toNat = 35 then some [] else
    match wordL ((c :: t).take (wlen (c :: t))) with
    | none => none
    | some b => (wordsL (t.drop (wlen (c :: t) - 1))).map (b :: ·) :=
  wordsL_of (by rw [sk_cons, h]; rfl)
theorem wordsL_nil : wordsL [] = some [] := wordsL_end rfl
theorem wordsL_skip (l : List UInt8) : wordsL (l.drop (sk l)) = wordsL l := by
  rcases h : l.drop (sk l) with _ | ⟨c, t⟩
  · rw [wordsL_end h, wordsL_nil]
  · have : isBl c = false := by
      rcases sk_drop l with k | ⟨d, u, k, hb⟩
      · rw [h] at k; cases k
      · rw [h] at k; cases k; exact hb
    rw [wordsL_of h, wordsL_cons this]

/-- The text that is read ends just at the sign that ends it. -/
theorem hexv_dig {c : UInt8} (h : hexv c < 16) : c.toNat ≠ 34 ∧ c.toNat ≠ 92 := by
  unfold hexv at h
  split at h
  · omega
  · split at h <;> omega
theorem esc_qlen {t : List UInt8} {x : UInt8} {n : Nat} (h : esc t = some (x, n)) (r : List UInt8) : qlen true (t ++ r) = (qlen false (t.drop n ++ r)).map (· + n) := by
  rcases t with _ | ⟨c, t⟩
  · cases h
  · rw [esc_cons] at h
    split at h
    · simp at h
      obtain ⟨_, rfl⟩ := h
      exact qlen_true c (t ++ r)
    · split at h
      · cases h
      · rcases t with _ | ⟨a, _ | ⟨b, t⟩⟩
        · cases h
        · cases h
        · simp only at h
          split at h
          · rename_i k
            simp at h
            obtain ⟨_, rfl⟩ := h
            have ha := hexv_dig k.1
            have hb := hexv_dig k.2
            show qlen true (c :: a :: b :: (t ++ r)) = (qlen false (t ++ r)).map (· + 3)
            rw [qlen_true, qlen_false, if_neg ha.1, if_neg ha.2, qlen_false, if_neg hb.1, if_neg hb.2]
            cases qlen false (t ++ r) <;> rfl
          · cases h
theorem unq_qlen : ∀ (k : Nat) (l : List UInt8) (x : List UInt8), l.length ≤ k → unq l = some x → ∀ r, qlen false (l ++ 34 :: r) = some (l.length + 1)
  | 0, l, x, hk, h, r => by
    obtain rfl := List.eq_nil_of_length_eq_zero (Nat.le_zero.1 hk)
    rfl
  | k + 1, [], x, hk, h, r => rfl
  | k + 1, c :: t, x, hk, h, r => by
    have hk' : t.length ≤ k := by simpa using hk
    rw [unq_cons] at h
    split at h
    · rename_i hc
      subst hc
      cases he : esc t with
      | none => rw [he] at h; cases h
      | some p =>
        obtain ⟨y, n⟩ := p
        rw [he] at h
        simp only at h
        obtain ⟨z, hz, _⟩ := Option.map_eq_some_iff.1 h
        have hl := esc_le he
        have ih := unq_qlen k (t.drop n) z (by simp; omega) hz r
        show qlen false (92 :: (t ++ 34 :: r)) = _
        rw [qlen_false, if_neg (by decide), if_pos (by decide), esc_qlen he, ih]
        simp
        omega
    · rename_i hc
      split at h
      · cases h
      · rename_i h2
        obtain ⟨z, hz, _⟩ := Option.map_eq_some_iff.1 h
        have ih := unq_qlen k t z hk' hz r
        show qlen false (c :: (t ++ 34 :: r)) = _
        rw [qlen_false, if_neg (fun e => h2 (.inl ((u8_eq _ 34 (by omega)).2 e))), if_neg (fun e => hc ((u8_eq _ 92 (by omega)).2 e)), ih]
        rfl
theorem unquote_form {l x : List UInt8} (h : unquoteL l = some x) : ∃ b, l = 34 :: (b ++ [34]) ∧ unq b = some x := by
  unfold unquoteL at h
  split at h
  · rename_i k
    obtain ⟨h2, h34, hl, _⟩ := k
    refine ⟨(l.drop 1).take (l.length - 2), ?_, h⟩
    rcases l with _ | ⟨c, t⟩
    · cases h34
    · simp at h34
      subst h34
      rcases List.eq_nil_or_concat t with rfl | ⟨u, d, rfl⟩
      · simp at h2
      · have e : (34 :: u.concat d).getLast? = some d := by
          rw [List.concat_eq_append]
          exact List.getLast?_concat (l := 34 :: u)
        rw [e] at hl
        simp only [Option.some.injEq] at hl
        subst hl
        simp
  · cases h
theorem tlen_of_text {m r x : List UInt8} (h : unquoteL m = some x) : tlen (m ++ r) = m.length ∧ rend (m ++ r) = m.length := by
  obtain ⟨b, rfl, hb⟩ := unquote_form h
  have := unq_qlen b.length b x (Nat.le_refl _) hb r
  have e : (b ++ [34]) ++ r = b ++ 34 :: r := by simp
  constructor
  · show tlen (34 :: ((b ++ [34]) ++ r)) = _
    simp [tlen, this]
  · show rend (34 :: ((b ++ [34]) ++ r)) = _
    simp [rend, this]

/-- Does a line end here, or stands a blank here? -/
def stops (l : List UInt8) : Bool := match l with
  | [] => true
  | c :: _ => isBl c
theorem stops_nb (l : List UInt8) : stops l = true ↔ nb l = 0 := by
  rcases l with _ | ⟨c, t⟩
  · simp [stops, nb]
  · rw [nb_cons]
    cases h : isBl c <;> simp [stops, h]
theorem stops_drop (l : List UInt8) : stops (l.drop (nb l)) = true := by
  rcases nb_drop l with h | ⟨c, t, h, hb⟩
  · rw [h]; rfl
  · rw [h]; exact hb
/-- What the reference answers of the word that begins here. -/
def refWord (m : List UInt8) : Option Bx := match wordL (m.take (rend m)) with
  | some b => if stops (m.drop (rend m)) then some b else none
  | none => none
theorem word_agree (m : List UInt8) : refWord m = wordL (m.take (wlen m)) ∧ (∀ b, refWord m = some b → rend m = wlen m) := by
  rcases m with _ | ⟨c, t⟩
  · refine ⟨?_, ?_⟩
    · simp [refWord, wordL_nil]
    · simp [refWord, wordL_nil]
  by_cases hc : c.toNat = 34
  · have hc' : c = 34 := (u8_eq _ 34 (by omega)).2 hc
    subst hc'
    have key : ∀ k b, wordL ((34 :: t).take k) = some b → tlen (34 :: t) = ((34 :: t).take k).length ∧ rend (34 :: t) = ((34 :: t).take k).length ∧ ((34 :: t).take k).length ≤ k := by
      intro k b h
      rcases k with _ | k
      · simp [wordL_nil] at h
      · have hw : wordL (34 :: t.take k) = some b := h
        rw [wordL_quote] at hw
        obtain ⟨x, hx, _⟩ := Option.map_eq_some_iff.1 hw
        have := tlen_of_text (r := t.drop k) hx
        rw [List.cons_append, List.take_append_drop] at this
        exact ⟨this.1, this.2, by simp; omega⟩
    have hw := wlen_le (34 :: t)
    have ht := tlen_le (34 :: t)
    cases hA : wordL ((34 :: t).take (wlen (34 :: t))) with
    | some b =>
      obtain ⟨e1, e2, _⟩ := key _ b hA
      have el : ((34 :: t).take (wlen (34 :: t))).length = wlen (34 :: t) := by rw [List.length_take]; omega
      rw [el] at e1 e2
      have hz : nb ((34 :: t).drop (tlen (34 :: t))) = 0 := by unfold wlen at e1; omega
      have hz2 := (stops_nb _).2 hz
      rw [e1] at hz2
      have hR : refWord (34 :: t) = some b := by
        unfold refWord
        rw [e2, hA]
        simp only
        rw [if_pos hz2]
      exact ⟨hR, fun _ _ => e2⟩
    | none =>
      have hR : refWord (34 :: t) = none := by
        unfold refWord
        cases hB : wordL ((34 :: t).take (rend (34 :: t))) with
        | none => rfl
        | some b =>
          simp only
          rw [if_neg]
          intro hd
          obtain ⟨e1, e2, e3⟩ := key _ b hB
          have e4 : tlen (34 :: t) = rend (34 :: t) := e1.trans e2.symm
          have hz : nb ((34 :: t).drop (tlen (34 :: t))) = 0 := by
            rw [e4]
            exact (stops_nb _).1 hd
          have : wlen (34 :: t) = rend (34 :: t) := by unfold wlen; omega
          rw [this, hB] at hA
          cases hA
      exact ⟨hR, fun b h => by rw [hR] at h; cases h⟩
  · have e1 : tlen (c :: t) = 0 := by simp [tlen, hc]
    have e2 : rend (c :: t) = nb (c :: t) := by simp [rend, hc]
    have e3 : wlen (c :: t) = nb (c :: t) := by unfold wlen; rw [e1]; simp
    refine ⟨?_, fun _ _ => by rw [e2, e3]⟩
    unfold refWord
    rw [e2, e3]
    cases wordL ((c :: t).take (nb (c :: t))) with
    | none => rfl
    | some b =>
      simp only
      rw [if_pos (stops_drop (c :: t))]

/-- The lines of a text. -/
def splitNL : List UInt8 → List (List UInt8)
  | [] => [[]]
  | c :: t => if c.toNat = 10 then [] :: splitNL t else match splitNL t with
    | [] => [[c]]
    | h :: r => (c :: h) :: r
theorem splitNL_ne : ∀ l, splitNL l ≠ []
  | [] => by simp [splitNL]
  | c :: t => by
    unfold splitNL
    split
    · simp
    · split <;> simp
theorem splitNL_line : ∀ (a : List UInt8), (∀ c ∈ a, c.toNat ≠ 10) → splitNL a = [a]
  | [], _ => rfl
  | c :: t, h => by
    have := splitNL_line t fun x hx => h x (by simp [hx])
    simp only [splitNL, if_neg (h c (by simp)), this]
theorem splitNL_cut : ∀ (a b : List UInt8), (∀ c ∈ a, c.toNat ≠ 10) → splitNL (a ++ 10 :: b) = a :: splitNL b
  | [], b, _ => by simp [splitNL]
  | c :: t, b, h => by
    have := splitNL_cut t b fun x hx => h x (by simp [hx])
    simp only [List.cons_append, splitNL, if_neg (h c (by simp)), this]

/-- The number of the first line in which something stands that is no word; 0: there is none. -/
def badAt : Nat → List (List UInt8) → Nat
  | _, [] => 0
  | no, l :: r => match wordsL l with
    | none => no
    | some _ => badAt (no + 1) r
/-- The lines that have words. -/
def goodL : Nat → List (List UInt8) → List (Nat × List Bx)
  | _, [] => []
  | no, l :: r => match wordsL l with
    | some (b :: u) => (no, b :: u) :: goodL (no + 1) r
    | _ => goodL (no + 1) r
theorem badAt_none {no : Nat} {l : List UInt8} {r : List (List UInt8)} (h : wordsL l = none) : badAt no (l :: r) = no := by simp [badAt, h]
theorem badAt_some {no : Nat} {l : List UInt8} {r : List (List UInt8)} {u : List Bx} (h : wordsL l = some u) : badAt no (l :: r) = badAt (no + 1) r := by simp [badAt, h]
theorem goodL_none {no : Nat} {l : List UInt8} {r : List (List UInt8)} (h : wordsL l = some []) : goodL no (l :: r) = goodL (no + 1) r := by simp [goodL, h]
theorem goodL_some {no : Nat} {l : List UInt8} {r : List (List UInt8)} {u : List Bx} (h : wordsL l = some u) (hu : u ≠ []) : goodL no (l :: r) = (no, u) :: goodL (no + 1) r := by
  rcases u with _ | ⟨b, u⟩
  · exact absurd rfl hu
  · simp [goodL, h]
end Go.Proofs.YtponiboiijgllaaDoor
