/- LexShows: the line of any words (mathematics), what lex.shown, lex.Show, the reference's Digits and Show and the law's Boxes answer, the law itself, and a parameter that is a row of boxes: one text, for a claim holds few files. Conditions: each part says its own. -/
import Derived.Test.YtponiboiijgllaaDoorLWalkR
import Derived.Lib.ItoaLen
import Derived.Test.YtponiboiijgllaaDoorShelfB
import Derived.Lib.SmallJoins
import Derived.Laws.AppendOwnNone
import Derived.Deep.Slices
import Derived.Deep.Fields
import Derived.ChangeSame
import Derived.Stop.LaidErr
import Derived.Lib.LaidTab

/- Plain mathematics for layer 3 (lex): the line of any words; it is read as these words. No condition. -/
namespace Go.Proofs.YtponiboiijgllaaDoor
open Go

theorem dec_small {u : Nat} (h : u < 10) : Lib.decDigits u = [UInt8.ofNat (48 + u)] := Lib.decDigits_one h
theorem dec_large {u : Nat} (h : ¬ u < 10) : Lib.decDigits u = Lib.decDigits (u / 10) ++ [UInt8.ofNat (48 + u % 10)] := by rw [Lib.decDigits, dif_neg h]
theorem dec_facts : ∀ (k u : Nat), u ≤ k → (∀ c ∈ Lib.decDigits u, isDig c = true) ∧ valL (Lib.decDigits u) = u ∧ Lib.decDigits u ≠ []
  | k, u, hk => by
    by_cases h : u < 10
    · rw [dec_small h]
      have e : (UInt8.ofNat (48 + u)).toNat = 48 + u := by simp; omega
      refine ⟨?_, ?_, by simp⟩
      · intro c hc
        simp only [List.mem_singleton] at hc
        rw [hc]
        simp only [isDig, decide_eq_true_iff, e]
        omega
      · simp only [valL, List.foldl_cons, List.foldl_nil, e]
        omega
    · rcases k with _ | k
      · omega
      · obtain ⟨h1, h2, h3⟩ := dec_facts k (u / 10) (by omega)
        rw [dec_large h]
        have e : (UInt8.ofNat (48 + u % 10)).toNat = 48 + u % 10 := by simp; omega
        refine ⟨?_, ?_, by simp⟩
        · intro c hc
          rw [List.mem_append] at hc
          rcases hc with hc | hc
          · exact h1 c hc
          · simp only [List.mem_singleton] at hc
            rw [hc]
            simp only [isDig, decide_eq_true_iff, e]
            omega
        · rw [valL_snoc, h2, e]
          omega
theorem dig_not {c : UInt8} (h : isDig c = true) : c ≠ 45 ∧ c ≠ 34 ∧ isBl c = false ∧ c.toNat ≠ 35 ∧ c.toNat ≠ 10 := by
  simp only [isDig, decide_eq_true_iff] at h
  refine ⟨fun k => by rw [k] at h; revert h; decide, fun k => by rw [k] at h; revert h; decide, ?_, by omega, by omega⟩
  rw [Bool.eq_false_iff]
  intro k
  rw [isBl_iff] at k
  omega
theorem digL_dec (u : Nat) : digL (Lib.decDigits u) = Lib.decDigits u := by
  obtain ⟨h1, _, h3⟩ := dec_facts u u (Nat.le_refl _)
  unfold digL
  rw [if_neg]
  intro k
  rcases e : Lib.decDigits u with _ | ⟨c, t⟩
  · exact h3 e
  · rw [e] at k h1
    simp only [List.head?_cons, Option.some.injEq] at k
    exact (dig_not (h1 c (by simp))).1 k
theorem numL_itoa {n m : Int} (h : numL (Lib.itoa n) = some m) : m = n := by
  obtain ⟨h1, h2, h3⟩ := dec_facts n.natAbs n.natAbs (Nat.le_refl _)
  unfold Lib.itoa at h
  split at h
  · rename_i hn
    have hd : digL (45 :: Lib.decDigits n.natAbs) = Lib.decDigits n.natAbs := by simp [digL]
    unfold numL at h
    rw [hd] at h
    split at h
    · cases h
    · split at h
      · rw [if_pos (by simp), h2] at h
        simp only [Option.some.injEq] at h
        omega
      · cases h
  · rename_i hn
    have e : n.toNat = n.natAbs := by omega
    rw [e] at h
    unfold numL at h
    rw [digL_dec] at h
    split at h
    · cases h
    · split at h
      · rw [if_neg (by omega), h2] at h
        simp only [Option.some.injEq] at h
        omega
      · cases h
theorem itoa_bytes (n : Int) : Lib.itoa n ≠ [] ∧ ∀ c ∈ Lib.itoa n, c ≠ 34 ∧ isBl c = false ∧ c.toNat ≠ 35 ∧ c.toNat ≠ 10 := by
  have h45 : (45 : UInt8) ≠ 34 ∧ isBl 45 = false ∧ (45 : UInt8).toNat ≠ 35 ∧ (45 : UInt8).toNat ≠ 10 := by decide
  unfold Lib.itoa
  split
  · obtain ⟨h1, _, h3⟩ := dec_facts n.natAbs n.natAbs (Nat.le_refl _)
    refine ⟨by simp, ?_⟩
    intro c hc
    simp only [List.mem_cons] at hc
    rcases hc with rfl | hc
    · exact h45
    · exact (dig_not (h1 c hc)).2
  · obtain ⟨h1, _, h3⟩ := dec_facts n.toNat n.toNat (Nat.le_refl _)
    exact ⟨h3, fun c hc => (dig_not (h1 c hc)).2⟩
theorem let_not {c : UInt8} (h : isLet c = true ∨ isDig c = true) : c ≠ 34 ∧ isBl c = false ∧ c.toNat ≠ 35 ∧ c.toNat ≠ 10 := by
  rcases h with h | h
  · simp only [isLet, decide_eq_true_iff] at h
    refine ⟨fun k => by rw [k] at h; revert h; decide, ?_, by omega, by omega⟩
    rw [Bool.eq_false_iff]
    intro k
    rw [isBl_iff] at k
    omega
  · exact (dig_not h).2
theorem nameFrom_all : ∀ (l : List UInt8) (i : Nat), nameFrom i l = true → ∀ c ∈ l, isLet c = true ∨ isDig c = true
  | [], _, _, c, hc => by simp at hc
  | a :: t, i, h, c, hc => by
    rw [nameFrom_cons, Bool.and_eq_true] at h
    simp only [List.mem_cons] at hc
    rcases hc with rfl | hc
    · have := h.1
      simp only [okAt, Bool.or_eq_true, Bool.and_eq_true] at this
      rcases this with k | ⟨_, k⟩
      · exact .inl k
      · exact .inr k
    · exact nameFrom_all t (i + 1) h.2 c hc
theorem name_facts {l : List UInt8} (h : nameL l = true) : l ≠ [] ∧ (∀ c ∈ l, c ≠ 34 ∧ isBl c = false ∧ c.toNat ≠ 35 ∧ c.toNat ≠ 10) ∧ numL l = none := by
  unfold nameL at h
  rw [Bool.and_eq_true, decide_eq_true_iff] at h
  obtain ⟨⟨hl, _⟩, hn⟩ := h
  have hall := nameFrom_all l 0 hn
  refine ⟨fun k => by rw [k] at hl; simp at hl, fun c hc => let_not (hall c hc), ?_⟩
  rcases l with _ | ⟨c, t⟩
  · exact numL_nil
  · rw [nameFrom_cons, Bool.and_eq_true] at hn
    have hc : isLet c = true := by simpa [okAt] using hn.1
    have hc2 := hc
    simp only [isLet, decide_eq_true_iff] at hc2
    have hd : digL (c :: t) = c :: t := by
      unfold digL
      rw [if_neg]
      intro k
      simp only [List.head?_cons, Option.some.injEq] at k
      rw [k] at hc2
      revert hc2
      decide
    unfold numL
    rw [hd]
    split
    · rfl
    · have : isDig c = false := by simp only [isDig, decide_eq_false_iff_not]; omega
      rw [List.all_cons, this]
      rfl

/-- The word that is read as what a box holds. -/
def showW : Bx → Option (List UInt8)
  | .no => none
  | .num n => if (numL (Lib.itoa n)).isSome then some (Lib.itoa n) else none
  | .nam s => if nameL s.data.toList then some s.data.toList else none
  | .txt s => some (quoteL s.data.toList)
theorem showW_facts {b : Bx} {x : List UInt8} (h : showW b = some x) : wordL x = some b ∧ (∃ c t, x = c :: t ∧ isBl c = false ∧ c.toNat ≠ 35) ∧ (∀ c ∈ x, c.toNat ≠ 10) ∧ ∀ r, stops r = true → wlen (x ++ r) = x.length := by
  have plain : ∀ y : List UInt8, y ≠ [] → (∀ c ∈ y, c ≠ 34 ∧ isBl c = false ∧ c.toNat ≠ 35 ∧ c.toNat ≠ 10) → y.head? ≠ some 34 ∧ (∃ c t, y = c :: t ∧ isBl c = false ∧ c.toNat ≠ 35) ∧ (∀ c ∈ y, c.toNat ≠ 10) ∧ ∀ r, stops r = true → wlen (y ++ r) = y.length := by
    intro y hy hc
    rcases y with _ | ⟨c, t⟩
    · exact absurd rfl hy
    · have h0 := hc c (by simp)
      refine ⟨by simpa using h0.1, ⟨c, t, rfl, h0.2.1, h0.2.2.1⟩, fun d hd => (hc d hd).2.2.2, ?_⟩
      intro r hr
      have ht : tlen (c :: t ++ r) = 0 := by
        show tlen (c :: (t ++ r)) = 0
        simp only [tlen]
        rw [if_neg (fun k => h0.1 ((u8_eq c 34 (by omega)).2 k))]
      unfold wlen
      rw [ht, List.drop_zero, nb_run _ _ (fun d hd => (hc d hd).2.1), (stops_nb r).1 hr]
      omega
  cases b with
  | no => cases h
  | num n =>
    simp only [showW] at h
    split at h
    · rename_i hs
      simp only [Option.some.injEq] at h
      subst h
      obtain ⟨h1, h2⟩ := itoa_bytes n
      obtain ⟨p1, p2, p3, p4⟩ := plain _ h1 h2
      obtain ⟨m, hm⟩ := Option.isSome_iff_exists.1 hs
      refine ⟨?_, p2, p3, p4⟩
      rw [wordL_plain p1, hm, numL_itoa hm]
    · cases h
  | nam s =>
    simp only [showW] at h
    split at h
    · rename_i hs
      simp only [Option.some.injEq] at h
      subst h
      obtain ⟨h1, h2, h3⟩ := name_facts hs
      obtain ⟨p1, p2, p3, p4⟩ := plain _ h1 h2
      refine ⟨?_, p2, p3, p4⟩
      rw [wordL_plain p1, h3, hs]
      rfl
    · cases h
  | txt s =>
    simp only [showW, Option.some.injEq] at h
    subst h
    have hq : quoteL s.data.toList = 34 :: (bodyL s.data.toList ++ [34]) := by simp [quoteL]
    have hu := unquote_quote s.data.toList
    refine ⟨?_, ⟨34, _, hq, by decide, by decide⟩, ?_, ?_⟩
    · rw [hq, wordL_quote, ← hq, hu]
      rfl
    · intro c hc
      have := (quote_plain s.data.toList c hc).1
      omega
    · intro r hr
      have ht := (tlen_of_text (r := r) hu).1
      unfold wlen
      rw [ht, List.drop_left, (stops_nb r).1 hr]
      omega
/-- The line of words, behind other ones or not. -/
def showGo : Bool → List Bx → Option (List UInt8)
  | _, [] => some []
  | first, b :: r => match showW b with
    | none => none
    | some x => (showGo false r).map fun y => (if first then [] else [32]) ++ x ++ y
theorem showGo_nil (first : Bool) : showGo first [] = some [] := by cases first <;> rfl
theorem showGo_cons (first : Bool) (b : Bx) (r : List Bx) : showGo first (b :: r) = match showW b with
    | none => none
    | some x => (showGo false r).map fun y => (if first then [] else [32]) ++ x ++ y := by cases first <;> rfl
theorem showGo_stops : ∀ (L : List Bx) (y : List UInt8), showGo false L = some y → stops y = true
  | [], y, h => by
    rw [showGo_nil] at h
    cases h
    rfl
  | b :: r, y, h => by
    rw [showGo_cons] at h
    split at h
    · cases h
    · obtain ⟨z, _, rfl⟩ := Option.map_eq_some_iff.1 h
      rfl
theorem shows_words : ∀ (L : List Bx) (first : Bool) (y : List UInt8), showGo first L = some y → wordsL y = some L ∧ ∀ c ∈ y, c.toNat ≠ 10
  | [], first, y, h => by
    rw [showGo_nil] at h
    cases h
    exact ⟨wordsL_nil, by simp⟩
  | b :: r, first, y, h => by
    rw [showGo_cons] at h
    split at h
    · cases h
    · rename_i x hx
      obtain ⟨z, hz, rfl⟩ := Option.map_eq_some_iff.1 h
      obtain ⟨ih1, ih2⟩ := shows_words r false z hz
      obtain ⟨f1, ⟨c, t, rfl, f2, f3⟩, f4, f5⟩ := showW_facts hx
      have hwl := f5 z (showGo_stops r z hz)
      have hw : wordsL ((c :: t) ++ z) = some (b :: r) := by
        show wordsL (c :: (t ++ z)) = _
        have hwl' : wlen (c :: (t ++ z)) = t.length + 1 := by
          rw [← List.cons_append, hwl]
          simp
        rw [words_step (n := t.length) f2 f3 hwl' (b := b) (by
          show wordL (((c :: t) ++ z).take (t.length + 1)) = _
          rw [List.take_left' (by simp)]
          exact f1), List.drop_left, ih1]
        rfl
      have hn : ∀ d ∈ (c :: t) ++ z, d.toNat ≠ 10 := by
        intro d hd
        rw [List.mem_append] at hd
        rcases hd with hd | hd
        · exact f4 d hd
        · exact ih2 d hd
      cases first
      · refine ⟨?_, ?_⟩
        · show wordsL (32 :: ((c :: t) ++ z)) = _
          rw [wordsL_blank (by decide), hw]
        · intro d hd
          have hd' : d ∈ 32 :: ((c :: t) ++ z) := hd
          simp only [List.mem_cons] at hd'
          rcases hd' with rfl | hd'
          · decide
          · exact hn d (by simpa using hd')
      · exact ⟨hw, hn⟩
/-- What is shown is read as it was. -/
theorem shows_back {L : List Bx} {y : List UInt8} (h : showGo true L = some y) : badAt 1 (splitNL y) = 0 ∧ goodL 1 (splitNL y) = (if L = [] then [] else [(1, L)]) := by
  obtain ⟨h1, h2⟩ := shows_words L true y h
  rw [splitNL_line y h2, badAt_some h1]
  refine ⟨rfl, ?_⟩
  by_cases hL : L = []
  · rw [if_pos hL, goodL_none (by rw [h1, hL])]
    rfl
  · rw [if_neg hL, goodL_some h1 hL]
    rfl
/-- Boxes as the law has them: few bytes, numbers of the machine. -/
def BxOk (b : Bx) : Prop := b.str.size ≤ 200 ∧ -9223372036854775808 ≤ b.int ∧ b.int ≤ 9223372036854775807
theorem showW_len {b : Bx} {x : List UInt8} (hb : BxOk b) (h : showW b = some x) : x.length ≤ 900 := by
  obtain ⟨h1, h2, h3⟩ := hb
  cases b with
  | no => cases h
  | num n =>
    simp only [showW] at h
    split at h
    · cases h
      have := Lib.itoa_length_le n h2 h3
      omega
    · cases h
  | nam s =>
    simp only [showW] at h
    split at h
    · cases h
      rw [len_data]
      simp only [Bx.str] at h1
      omega
    · cases h
  | txt s =>
    simp only [showW, Option.some.injEq] at h
    subst h
    have := quote_size s.data.toList
    rw [len_data] at this
    simp only [Bx.str] at h1
    omega
end Go.Proofs.YtponiboiijgllaaDoor

/- What lex.shown answers of any box, and lex.Show of any words. Conditions: few and short words; the library's table of powers of ten is as a start leaves it. -/
namespace Go.Proofs.YtponiboiijgllaaDoor
open Go.RowKit
set_option maxRecDepth 100000

/-- The library's table of powers of ten. -/
def TabOk (w : World) : Prop := Lib.TabIs Tryd.prog w "internal/strconv.uint64pow10" .u64 Lib.pow10Tab
theorem gPow : Tryd.prog.globalNamed "internal/strconv.uint64pow10" = some 3 := by kernel_rfl
theorem TabOk.next {w w' : World} (h : TabOk w) (hb : Below w.heap.size w w') : TabOk w' := Joins.tab_stays gPow h hb (Nat.le_refl _)
theorem itoa_any (n : Int) (h0 : -9223372036854775808 ≤ n) (h1 : n ≤ 9223372036854775807) (w : World) (ht : TabOk w) :
    Calls Tryd.prog 54 #[.int .i64 n] w fun e w' => e = .returned (.string ⟨(Lib.itoa n).toArray⟩) ∧ Below w.heap.size w w' := by
  refine (Tryd.strconv_Itoa n h0 h1 w ht).mono ?_
  rintro e w' ⟨rfl, k, os, rfl⟩
  refine ⟨rfl, ?_⟩
  exact ⟨rfl, rfl, rfl, by show w.heap.size ≤ (w.heap ++ os).size; rw [Array.size_append]; omega, fun j hj => Array.getElem?_append_left hj⟩

/-- What lex.shown leaves. -/
def ShownRes (b : Bx) (w : World) (e : Ending) (w' : World) : Prop := (∃ s ok, e = .returned (.tuple #[.string s, .bool ok]) ∧ ((ok = true ∧ ∃ x, showW b = some x ∧ s = ⟨x.toArray⟩) ∨ (ok = false ∧ showW b = none))) ∧ Below w.heap.size w w'

set_option maxHeartbeats 2000000 in
theorem shown_any (b : Bx) (hb : BxOk b) (w : World) (ht : TabOk w) : Calls Tryd.prog 28 #[.agg #[b.v]] w (ShownRes b w) := by
  obtain ⟨hb1, hb2, hb3⟩ := hb
  obtain ⟨c0, f0⟩ := new_box w b.v 52
  have ht0 : TabOk (w.alloc (.cells #[b.v] 52)) := ht.next ((Below.refl _ _).alloc (Nat.le_refl _) _)
  go_enter Tryd.func28, Tryd.ntmps28
  go_wp2_with fail
  refine (asnum_any b _).mono ?_
  rintro e w1 ⟨rfl, b1⟩
  have s1 := b1.size
  simp only [World.alloc, Array.size_push] at s1
  have c1 := keep b1 c0 (by simp)
  have ht1 := ht0.next b1
  clear c0 f0
  cases b with
  | num n =>
    simp only [Bx.int, Bx.isNum]
    go_wp2_with fail
    refine (itoa_any n hb2 hb3 _ ht1).mono ?_
    rintro e w2 ⟨rfl, b2⟩
    have s2 := b2.size
    have hil := Lib.itoa_length_le n hb2 hb3
    go_wp2_with fail
    refine (lexNumber_any _ _ (by show (Lib.itoa n).toArray.size ≤ _; simp; omega)).mono ?_
    rintro e w3 ⟨rfl, b3⟩
    have hB : Below w.heap.size w w3 := ((((Below.refl _ _).alloc (Nat.le_refl _) _).trans (b1.mono (by simp))).trans (b2.mono (by omega))).trans (b3.mono (by omega))
    cases hn : numL (Lib.itoa n) with
    | none =>
      have HN := Lib.hid hn
      simp only [numV]
      clear hn
      go_wp2
      go_ret2
      exact ⟨⟨_, false, rfl, .inr ⟨rfl, by simp only [showW]; rw [HN.out]; rfl⟩⟩, hB⟩
    | some m =>
      have HN := Lib.hid hn
      simp only [numV]
      clear hn
      go_wp2
      go_ret2
      exact ⟨⟨_, true, rfl, .inl ⟨rfl, _, by simp only [showW]; rw [HN.out]; rfl, rfl⟩⟩, hB⟩
  | nam s =>
    simp only [Bx.int, Bx.isNum]
    simp only [Bx.str] at hb1
    go_wp2_with fail
    refine (asnam_any (.nam s) _).mono ?_
    rintro e w2 ⟨rfl, b2⟩
    have s2 := b2.size
    simp only [Bx.name, Bx.isNam]
    go_wp2_with fail
    refine (lexName_any s _ (by omega)).mono ?_
    rintro e w3 ⟨rfl, b3⟩
    have hB : Below w.heap.size w w3 := ((((Below.refl _ _).alloc (Nat.le_refl _) _).trans (b1.mono (by simp))).trans (b2.mono (by omega))).trans (b3.mono (by omega))
    cases hn : nameL s.data.toList with
    | false =>
      have HN := Lib.hid hn
      clear hn
      go_wp2
      go_ret2
      exact ⟨⟨_, false, rfl, .inr ⟨rfl, by simp only [showW]; rw [HN.out]; rfl⟩⟩, hB⟩
    | true =>
      have HN := Lib.hid hn
      clear hn
      go_wp2
      go_ret2
      exact ⟨⟨_, true, rfl, .inl ⟨rfl, s.data.toList, by simp only [showW]; rw [HN.out]; rfl, rfl⟩⟩, hB⟩
  | txt s =>
    simp only [Bx.int, Bx.isNum]
    simp only [Bx.str] at hb1
    go_wp2_with fail
    refine (asnam_any (.txt s) _).mono ?_
    rintro e w2 ⟨rfl, b2⟩
    have s2 := b2.size
    simp only [Bx.name, Bx.isNam]
    have c2 := keep b2 c1 (by omega)
    go_wp2_with fail
    refine (astxt_any (.txt s) _).mono ?_
    rintro e w3 ⟨rfl, b3⟩
    have s3 := b3.size
    simp only [Bx.text, Bx.isTxt]
    go_wp2_with fail
    refine (quote_any s _ (by omega)).mono ?_
    rintro e w4 ⟨rfl, b4⟩
    have hB : Below w.heap.size w w4 := (((((Below.refl _ _).alloc (Nat.le_refl _) _).trans (b1.mono (by simp))).trans (b2.mono (by omega))).trans (b3.mono (by omega))).trans (b4.mono (by omega))
    go_wp2
    go_ret2
    exact ⟨⟨_, true, rfl, .inl ⟨rfl, _, rfl, rfl⟩⟩, hB⟩
  | no =>
    simp only [Bx.int, Bx.isNum]
    go_wp2_with fail
    refine (asnam_any .no _).mono ?_
    rintro e w2 ⟨rfl, b2⟩
    have s2 := b2.size
    simp only [Bx.name, Bx.isNam]
    have c2 := keep b2 c1 (by omega)
    go_wp2_with fail
    refine (astxt_any .no _).mono ?_
    rintro e w3 ⟨rfl, b3⟩
    simp only [Bx.text, Bx.isTxt]
    have hB : Below w.heap.size w w3 := ((((Below.refl _ _).alloc (Nat.le_refl _) _).trans (b1.mono (by simp))).trans (b2.mono (by omega))).trans (b3.mono (by omega))
    go_wp2
    go_ret2
    exact ⟨⟨_, false, rfl, .inr ⟨rfl, rfl⟩⟩, hB⟩
end Go.Proofs.YtponiboiijgllaaDoor

/- What lex.Show answers of any few and short words. Conditions: as LWalkW. -/
namespace Go.Proofs.YtponiboiijgllaaDoor
open Go.RowKit
set_option maxRecDepth 100000

theorem show_none {l : List Bx} {k : Nat} (hk : k < l.length) {acc : List UInt8} (h : showW (l[k]'hk) = none) (H : (showGo (k == 0) (l.drop k)).map (acc ++ ·) = showGo true l) : showGo true l = none := by
  rw [← H, List.drop_eq_getElem_cons hk, showGo_cons, h]
  rfl
theorem show_some {l : List Bx} {k : Nat} (hk : k < l.length) {acc x : List UInt8} (h : showW (l[k]'hk) = some x) (H : (showGo (k == 0) (l.drop k)).map (acc ++ ·) = showGo true l) :
    (showGo (k + 1 == 0) (l.drop (k + 1))).map ((acc ++ (if k = 0 then [] else [32]) ++ x) ++ ·) = showGo true l := by
  rw [← H, List.drop_eq_getElem_cons hk, showGo_cons, h]
  have e : (k + 1 == 0) = false := rfl
  rw [e]
  simp only [Option.map_map]
  congr 1
  funext y
  by_cases h0 : k = 0
  · subst h0
    simp
  · have : (k == 0) = false := by simpa using h0
    simp [h0]
theorem str_cells (x : List UInt8) : Lib.strCells ⟨x.toArray⟩ = Lib.byteCells x := by
  simp [Lib.strCells, Lib.byteCells]
def showV (o : Option (List UInt8)) : Value := match o with | some y => .tuple #[.string ⟨y.toArray⟩, .int .i64 0] | none => .tuple #[.string ⟨#[]⟩, .int .i64 10]
theorem bld_new (w : World) : Bld w.heap.size w.heap.size (Lib.byteCells []) (w.alloc (.cells #[.pointer none, .slice none 0 0] 68)) :=
  .inl ⟨Nat.le_refl _, _, alloc_new w _, World.ownsRowF_nil _ _ _ _, by simp [Value.ownBlock]⟩
theorem Bld.new {B b : Nat} {bs : List Value} {w : World} (h : Bld B b bs w) (o : Obj) : Bld B b bs (w.alloc o) := h.alloc _

set_option maxHeartbeats 4000000 in
theorem show_nil (a : Option Addr) (c : Nat) (w : World) : Calls Tryd.prog 17 #[.slice a 0 c] w fun e w' => e = .returned (.tuple #[.string ⟨#[]⟩, .int .i64 0]) ∧ Below w.heap.size w w' := by
  have hI := bld_new w
  go_enter Tryd.func17, Tryd.ntmps17
  go_wp2
  go_loopw [11] (fun i wr => i = .int .i64 0 ∧ Bld w.heap.size w.heap.size (Lib.byteCells []) wr ∧ Below w.heap.size w wr) (fun _ _ => 0)
  case atStart => exact ⟨rfl, hI, (Below.refl _ _).alloc (Nat.le_refl _) _⟩
  case round =>
    obtain ⟨rfl, hI2, hbw⟩ := hrel
    have hsz := hbw.size
    go_wp2_with (go_at_call 31; refine (Tryd.Builder_String_any_k w.heap.size w.heap.size [] _ hI2 (by omega)).mono ?_)
    rintro e w1 ⟨rfl, _, b1, _⟩
    go_wp2
    go_ret2
    exact ⟨rfl, hbw.trans b1⟩

set_option maxHeartbeats 4000000 in
theorem show_row (l : List Bx) (hl : l.length ≤ 60) (hb : ∀ b ∈ l, BxOk b) (w : World) (ht : TabOk w) (g c : Nat) (hg : g < w.heap.size) (hc : ∀ k (hk : k < l.length), w.cell? ⟨g, k, none⟩ = some (l[k]'hk).v) :
    Calls Tryd.prog 17 #[.slice (some ⟨g, 0, none⟩) l.length c] w fun e w' => e = .returned (showV (showGo true l)) ∧ Below w.heap.size w w' := by
  have st := st_v
  have hI0 := bld_new w
  have HC := Lib.hid hc
  have HB := Lib.hid hb
  clear hc hb
  go_enter Tryd.func17, Tryd.ntmps17
  go_wp2
  go_loopw [11] (fun i wr => ∃ (k : Nat) (acc : List UInt8), k ≤ l.length ∧ i = .int .i64 k ∧ Bld w.heap.size w.heap.size (Lib.byteCells acc) wr ∧ Below w.heap.size w wr ∧ Hid ((showGo (k == 0) (l.drop k)).map (acc ++ ·) = showGo true l) ∧ acc.length ≤ 1000 * k) (fun i _ => l.length - (intOf i).toNat)
  case atStart => exact ⟨0, [], by omega, rfl, hI0, (Below.refl _ _).alloc (Nat.le_refl _) _, Lib.hid (by simp), by simp⟩
  case round =>
    obtain ⟨k, acc, hk, rfl, hI, hbw, H, hal⟩ := hrel
    have hsz := hbw.size
    by_cases hp : k < l.length
    · have hi : (k : Int) < (l.length : Int) := by omega
      obtain ⟨x, hx⟩ : ∃ x, x = l[k]'hp := ⟨_, rfl⟩
      have e1 : wr.cell? ⟨g, k, none⟩ = some x.v := by rw [hx]; exact keep hbw (HC.out k hp) hg
      have hxb : BxOk x := by rw [hx]; exact HB.out _ (List.getElem_mem hp)
      have hg2 : g < wr.heap.size := by omega
      obtain ⟨c0, f0⟩ := new_box wr x.v 52
      have HX := Lib.hid hx
      clear hx
      go_wp2_with fail
      have ht1 := (ht.next hbw).next ((Below.refl _ wr).alloc (Nat.le_refl _) (.cells #[x.v] 52))
      have hI1 := hI.new (.cells #[x.v] 52)
      refine (shown_any x hxb _ ht1).mono ?_
      rintro e w1 ⟨⟨s, ok, rfl, hor⟩, b1⟩
      have hI2 := hI1.below b1
      have s1 := b1.size
      simp only [World.alloc, Array.size_push] at s1
      have hbw2 := (hbw.alloc hsz (.cells #[x.v] 52)).trans (b1.mono (by simp; omega))
      clear hI hI1 hI0 ht1 b1 c0 f0 e1
      rcases hor with ⟨rfl, y, hy, rfl⟩ | ⟨rfl, hn⟩
      · have hyl := showW_len hxb hy
        rw [HX.out] at hy
        have HN := Lib.hid (show_some hp hy H.out)
        clear hy
        by_cases h0 : k = 0
        · have h0' : ¬ (0 : Int) < (k : Int) := by omega
          have hyz : (⟨y.toArray⟩ : ByteArray).size = y.length := by show y.toArray.size = _; simp
          have hw := writeString_any w.heap.size w.heap.size _ ⟨y.toArray⟩ _ hI2 (by rw [Lib.byteCells_length, hyz]; omega) (by omega)
          go_wp2_with (go_at_call 30; refine hw.mono ?_)
          rintro e w2 ⟨rfl, h2, b2, _⟩
          have hI3 : Bld w.heap.size w.heap.size (Lib.byteCells (acc ++ y)) w2 := by
            rw [Lib.byteCells_append]
            rw [str_cells] at h2
            exact Or.inr h2
          clear h2 hI2
          go_wp2
          go_roundw
          case rel => exact ⟨k + 1, acc ++ y, by omega, by go_num, hI3, hbw2.trans b2, Lib.hid (by have := HN.out; rw [if_pos h0, List.append_nil] at this; exact this), by simp; omega⟩
          case measure => simp [intOf]; omega
        · have h0' : (0 : Int) < (k : Int) := by omega
          go_wp2_with (go_at_call 29; refine (writeByte_any w.heap.size w.heap.size _ 32 _ hI2 (by rw [Lib.byteCells_length]; omega) (by omega)).mono ?_)
          rintro e w2 ⟨rfl, h2, b2, _⟩
          have hI3 : Bld w.heap.size w.heap.size (Lib.byteCells (acc ++ [32])) w2 := by
            rw [Lib.byteCells_append]
            exact Or.inr h2
          have s2 := h2.lt
          clear h2 hI2
          have hyz : (⟨y.toArray⟩ : ByteArray).size = y.length := by show y.toArray.size = _; simp
          have hw := writeString_any w.heap.size w.heap.size _ ⟨y.toArray⟩ _ hI3 (by rw [Lib.byteCells_length, hyz]; simp; omega) (by omega)
          go_wp2_with (go_at_call 30; refine hw.mono ?_)
          rintro e w3 ⟨rfl, h3, b3, _⟩
          have hI4 : Bld w.heap.size w.heap.size (Lib.byteCells (acc ++ [32] ++ y)) w3 := by
            rw [Lib.byteCells_append (acc ++ [32])]
            rw [str_cells] at h3
            exact Or.inr h3
          clear h3 hI3
          go_wp2
          go_roundw
          case rel => exact ⟨k + 1, acc ++ [32] ++ y, by omega, by go_num, hI4, (hbw2.trans b2).trans b3, Lib.hid (by have := HN.out; rw [if_neg h0] at this; exact this), by simp; omega⟩
          case measure => simp [intOf]; omega
      · rw [HX.out] at hn
        have HN := Lib.hid (show_none hp hn H.out)
        clear hn
        go_wp2
        go_ret2
        rw [HN.out]
        exact ⟨rfl, hbw2⟩
    · have hi : ¬ (k : Int) < (l.length : Int) := by omega
      have HN : Hid (showGo true l = some acc) := by
        have := H.out
        rw [List.drop_eq_nil_of_le (by omega), showGo_nil] at this
        exact Lib.hid (by rw [← this]; simp)
      go_wp2_with (go_at_call 31; refine (Tryd.Builder_String_any_k w.heap.size w.heap.size acc _ hI (by omega)).mono ?_)
      rintro e w4 rfl _ b4 _
      go_wp2
      go_ret2
      rw [HN.out]
      exact ⟨rfl, hbw.trans b4⟩

theorem show_any (l : List Bx) (hl : l.length ≤ 60) (hb : ∀ b ∈ l, BxOk b) (w : World) (ht : TabOk w) (v : Value) (hv : SeesB w v l) :
    Calls Tryd.prog 17 #[v] w fun e w' => e = .returned (showV (showGo true l)) ∧ Below w.heap.size w w' := by
  rcases hv with ⟨rfl, a, c, rfl⟩ | ⟨g, c, rfl, hg, hc⟩
  · exact show_nil a c w
  · exact show_row l hl hb w ht g c hg hc
end Go.Proofs.YtponiboiijgllaaDoor

/- What the reference's Digits answers of any number. No condition but that it is one of the machine's. -/
namespace Go.Proofs.YtponiboiijgllaaDoor
open Go.RowKit
set_option maxRecDepth 100000

theorem dec_len (N : Nat) (hN : N ≤ 9223372036854775808) : (Lib.decDigits N).length ≤ 20 := by
  have := Lib.itoa_length_le (-(N : Int)) (by omega) (by omega)
  unfold Lib.itoa at this
  split at this
  · rw [show (-(N : Int)).natAbs = N by omega] at this
    simp at this
    omega
  · rw [show N = 0 by omega, dec_small (by omega)]
    simp
def dch (M : Nat) : UInt8 := UInt8.ofNat (48 + M % 10)
theorem dch_nat (M : Nat) : ((dch M).toNat : Int) = 48 + (M : Int) % 10 := by
  have : (dch M).toNat = 48 + M % 10 := by unfold dch; simp; omega
  omega
theorem own_digit (base : Nat) (w : World) (M : Nat) (x : Int) (hx : x = 48 + (M : Int) % 10) (hb : base ≤ w.heap.size) : Owns (w.alloc (.cells #[.int .u8 x] 5)) base (.slice (some ⟨w.heap.size, 0, none⟩) 1 1) [dch M] := by
  have := World.ownsRow_lit (base := base) (e := 5) (size := 1) w #[.int .u8 x] 1 hb (by unfold maxLen; omega) rfl
  unfold Owns
  rw [show Lib.byteCells [dch M] = (#[Value.int .u8 x] : Array Value).toList by simp [Lib.byteCells, dch_nat, hx]]
  exact this
theorem dec_last {N M : Nat} {acc : List UInt8} (h : Lib.decDigits N = Lib.decDigits M ++ acc) (hM : M < 10) : Lib.decDigits N = dch M :: acc := by
  rw [h, dec_small hM]
  unfold dch
  rw [Nat.mod_eq_of_lt hM]
  rfl
theorem dec_next {N M : Nat} {acc : List UInt8} (h : Lib.decDigits N = Lib.decDigits M ++ acc) (hM : ¬ M < 10) : Lib.decDigits N = Lib.decDigits (M / 10) ++ (dch M :: acc) := by
  rw [h, dec_large hM, List.append_assoc]
  rfl
theorem own_cell {w : World} {base g c : Nat} {acc : List UInt8} (h : Owns w base (.slice (some ⟨g, 0, none⟩) acc.length c) acc) : ∀ j u, (Lib.byteCells acc)[j]? = some u → w.cell? ((⟨g, 0, none⟩ : Addr).add j) = some u := fun j u hj => World.ownsRow.cells h (g := g) rfl j u hj
theorem own_some {w : World} {base : Nat} {v : Value} {c : UInt8} {acc : List UInt8} (h : Owns w base v (c :: acc)) : ∃ g cap, v = .slice (some ⟨g, 0, none⟩) (c :: acc).length cap := by
  rcases h.2 with ⟨_, h0⟩ | ⟨g, cap, cur, hv, _⟩
  · simp at h0
  · exact ⟨g, cap, hv⟩
theorem str_app (a b : List UInt8) : (⟨a.toArray⟩ : ByteArray) ++ ⟨b.toArray⟩ = ⟨(a ++ b).toArray⟩ := by
  apply ByteArray.ext
  simp
theorem dec_room {N M : Nat} {acc : List UInt8} (hl : (Lib.decDigits N).length ≤ 20) (h : Lib.decDigits N = Lib.decDigits M ++ acc) : acc.length + 1 ≤ 20 := by
  rw [h, List.length_append] at hl
  have := List.length_pos_iff.2 (dec_facts M M (Nat.le_refl _)).2.2
  omega
theorem grown_new {B : Nat} {a w w' : World} {o : Obj} {n c : Nat} (h : Below B a w) (hs : B ≤ w.heap.size) (hg : (w.alloc o).grownBy w' (Value.slice (some ⟨w.heap.size, 0, none⟩) n c).ownBlock) : Below B a w' :=
  (h.alloc hs _).grown hg (by simp; omega) (fun k hk => by simp [Value.ownBlock] at hk; omega)

set_option maxHeartbeats 4000000 in
theorem digits_pos (N : Nat) (hN : N ≤ 9223372036854775807) (w : World) :
    Calls Tryd.prog 32 #[.int .i64 N] w fun e w' => e = .returned (.string ⟨(Lib.decDigits N).toArray⟩) ∧ Below w.heap.size w w' := by
  obtain ⟨i0, hi, hz0, hz1, hz2⟩ := info_parts info5
  have hdl := dec_len N (by omega)
  go_enter Tryd.func32, Tryd.ntmps32
  go_wp2
  go_loopw [3, 4] (fun v i wr => ∃ (M : Nat) (acc : List UInt8), M ≤ N ∧ i = .int .i64 M ∧ Owns wr w.heap.size v acc ∧ Below w.heap.size w wr ∧ Hid (Lib.decDigits N = Lib.decDigits M ++ acc) ∧ acc.length ≤ 20) (fun _ i _ => (intOf i).toNat)
  case atStart => exact ⟨N, [], Nat.le_refl _, rfl, World.ownsRow_nil _ _ _ _, Below.refl _ _, Lib.hid (by simp), by simp⟩
  case round =>
    obtain ⟨M, acc, hM, rfl, hown, hbw, H, hal⟩ := hrel
    have hsz := hbw.size
    have own0 := own_digit w.heap.size wr M (48 + (M : Int) % 10) rfl hsz
    rcases hown.2 with ⟨rfl, h0⟩ | ⟨g, cap, cur, rfl, _⟩
    · obtain rfl := List.eq_nil_of_length_eq_zero h0
      clear hown
      have b3 : Below w.heap.size w (wr.alloc (.cells #[.int .u8 (48 + (M : Int) % 10)] 5)) := hbw.alloc hsz _
      by_cases h10 : M < 10
      · have q0 : ((M : Int) / 10 == 0) = true := by simp; omega
        have hcv := run_convert_bytes_back (P := Tryd.prog) (wr.alloc (.cells #[.int .u8 (48 + (M : Int) % 10)] 5)) 66 9 5 ⟨wr.heap.size, 0, none⟩ 1 [dch M] Tryd.underlying66 Tryd.underlying5 Tryd.underlying9 (fun j hj => World.ownsRow.cells own0 (g := wr.heap.size) rfl j _ (by simp only [Lib.byteCells, List.getElem?_map, List.getElem?_eq_getElem hj]; rfl))
        have HE := Lib.hid (dec_last H.out h10)
        obtain ⟨Y, hY⟩ : ∃ Y, Y = [dch M] := ⟨_, rfl⟩
        have hYs : ¬ 9223372036854775807 < 1 + Y.length := by rw [hY]; simp
        have hYl : [dch M].length = 1 := rfl
        rw [hYl, ← hY] at hcv
        rw [← hY] at HE
        clear hY hYl
        go_wp2_with (at_builtin; refine wpList_append_own_none rfl (.tmp 16) (.tmp 17) 66 rfl w.heap.size 5 i0 1 Tryd.underlying66 hi _ 1 _ rfl own0 rfl ?_)
        go_wp2
        go_ret
        rw [← HE.out]
        exact ⟨rfl, b3⟩
      · have q0 : ((M : Int) / 10 == 0) = false := by simp; omega
        have HN := Lib.hid (dec_next H.out h10)
        go_wp2_with (at_builtin; refine wpList_append_own_none rfl (.tmp 16) (.tmp 17) 66 rfl w.heap.size 5 i0 1 Tryd.underlying66 hi _ 1 _ rfl own0 rfl ?_)
        go_wp2
        go_roundw
        case rel => exact ⟨M / 10, [dch M], by omega, by rw [show ((M / 10 : Nat) : Int) = (M : Int) / 10 by omega], own0, b3, HN, by simp⟩
        case measure => simp [intOf]; omega
    · have hcell := own_cell (hown.alloc (.cells #[.int .u8 (48 + (M : Int) % 10)] 5))
      have hal2 : acc.length + 1 ≤ 20 := dec_room hdl H.out
      by_cases h10 : M < 10
      · have q0 : ((M : Int) / 10 == 0) = true := by simp; omega
        go_wp2_with (at_builtin; refine wpList_append_bytes rfl (.tmp 16) (.tmp 17) rfl w.heap.size _ [dch M] rfl own0 ⟨g, 0, none⟩ acc.length cap acc rfl rfl hcell (by simp; omega) (by simp; omega) ?_)
        intro v' w3 hown' hgrow
        have b3 := grown_new hbw hsz hgrow
        obtain ⟨g', cap', rfl⟩ := own_some hown'
        have hcv := run_convert_bytes_back (P := Tryd.prog) (w3) 66 9 5 ⟨g', 0, none⟩ cap' (dch M :: acc) Tryd.underlying66 Tryd.underlying5 Tryd.underlying9 (fun j hj => World.ownsRow.cells hown' (g := g') rfl j _ (by simp only [Lib.byteCells, List.getElem?_map, List.getElem?_eq_getElem hj]; rfl))
        have HE := Lib.hid (dec_last H.out h10)
        obtain ⟨Y, hY⟩ : ∃ Y, Y = dch M :: acc := ⟨_, rfl⟩
        have hYs : ¬ 9223372036854775807 < 1 + Y.length := by rw [hY]; simp; omega
        rw [← hY] at hcv HE hown' ⊢
        clear hY hown' hgrow
        go_wp2
        go_ret
        rw [← HE.out]
        exact ⟨rfl, b3⟩
      · have q0 : ((M : Int) / 10 == 0) = false := by simp; omega
        have HN := Lib.hid (dec_next H.out h10)
        go_wp2_with (at_builtin; refine wpList_append_bytes rfl (.tmp 16) (.tmp 17) rfl w.heap.size _ [dch M] rfl own0 ⟨g, 0, none⟩ acc.length cap acc rfl rfl hcell (by simp; omega) (by simp; omega) ?_)
        intro v' w3 hown' hgrow
        have b3 := grown_new hbw hsz hgrow
        go_wp2
        go_roundw
        case rel => exact ⟨M / 10, dch M :: acc, by omega, by rw [show ((M / 10 : Nat) : Int) = (M : Int) / 10 by omega], hown', b3, HN, by simp; omega⟩
        case measure => simp [intOf]; omega

set_option maxHeartbeats 4000000 in
theorem digits_neg (N : Nat) (h0N : 0 < N) (hN : N ≤ 9223372036854775808) (w : World) :
    Calls Tryd.prog 32 #[.int .i64 (-(N : Int))] w fun e w' => e = .returned (.string (⟨#[45]⟩ ++ ⟨(Lib.decDigits N).toArray⟩)) ∧ Below w.heap.size w w' := by
  obtain ⟨i0, hi, hz0, hz1, hz2⟩ := info_parts info5
  have hdl := dec_len N (by omega)
  obtain ⟨n, hn⟩ : ∃ n, n = -(N : Int) := ⟨_, rfl⟩
  rw [← hn]
  have hn0 : n < 0 := by omega
  go_enter Tryd.func32, Tryd.ntmps32
  go_wp2
  go_loopw [3, 4] (fun v i wr => ∃ (M : Nat) (m : Int) (acc : List UInt8), M ≤ N ∧ i = .int .i64 m ∧ m = -(M : Int) ∧ Owns wr w.heap.size v acc ∧ Below w.heap.size w wr ∧ Hid (Lib.decDigits N = Lib.decDigits M ++ acc) ∧ acc.length ≤ 20) (fun _ i _ => (-(intOf i)).toNat)
  case atStart => exact ⟨N, n, [], Nat.le_refl _, rfl, hn, World.ownsRow_nil _ _ _ _, Below.refl _ _, Lib.hid (by simp), by simp⟩
  case round =>
    obtain ⟨M, m, acc, hM, rfl, hm, hown, hbw, H, hal⟩ := hrel
    have hsz := hbw.size
    obtain ⟨r, hr⟩ : ∃ r, r = m.tmod 10 := ⟨_, rfl⟩
    obtain ⟨q, hq⟩ : ∃ q, q = m.tdiv 10 := ⟨_, rfl⟩
    have er : r = -((M % 10 : Nat) : Int) := by rw [hr, hm, Int.neg_tmod]; rfl
    have eq : q = -((M / 10 : Nat) : Int) := by rw [hq, hm, Int.neg_tdiv]; rfl
    have hr2 := hr.symm
    have hq2 := hq.symm
    have r1 : r ≤ 0 := by omega
    have r2 : -10 < r := by omega
    have q1 : q ≤ 0 := by omega
    have q2 : -9223372036854775808 ≤ q := by omega
    have m1 : m ≤ 0 := by omega
    have m2 : -9223372036854775808 ≤ m := by omega
    have ER := Lib.hid er
    have EQ := Lib.hid eq
    have HM := Lib.hid hm
    have HNN := Lib.hid hn
    clear hr hq er eq hm hn
    by_cases hr0 : r < 0
    · have own0 := own_digit w.heap.size wr M (48 + -r) (by have := ER.out; omega) hsz
      rcases hown.2 with ⟨rfl, h0⟩ | ⟨g, cap, cur, rfl, _⟩
      · obtain rfl := List.eq_nil_of_length_eq_zero h0
        clear hown
        have b3 : Below w.heap.size w (wr.alloc (.cells #[.int .u8 (48 + -r)] 5)) := hbw.alloc hsz _
        by_cases h10 : M < 10
        · have q0 : (q == 0) = true := by have := EQ.out; simp; omega
          have hcv := run_convert_bytes_back (P := Tryd.prog) (wr.alloc (.cells #[.int .u8 (48 + -r)] 5)) 66 9 5 ⟨wr.heap.size, 0, none⟩ 1 [dch M] Tryd.underlying66 Tryd.underlying5 Tryd.underlying9 (fun j hj => World.ownsRow.cells own0 (g := wr.heap.size) rfl j _ (by simp only [Lib.byteCells, List.getElem?_map, List.getElem?_eq_getElem hj]; rfl))
          have HE := Lib.hid (dec_last H.out h10)
          obtain ⟨Y, hY⟩ : ∃ Y, Y = [dch M] := ⟨_, rfl⟩
          have hYs : ¬ 9223372036854775807 < 1 + Y.length := by rw [hY]; simp
          have hYl : [dch M].length = 1 := rfl
          rw [hYl, ← hY] at hcv
          rw [← hY] at HE
          clear hY hYl
          go_wp2_with (at_builtin; refine wpList_append_own_none rfl (.tmp 16) (.tmp 17) 66 rfl w.heap.size 5 i0 1 Tryd.underlying66 hi _ 1 _ rfl own0 rfl ?_)
          go_wp2
          go_ret
          rw [← HE.out]
          exact ⟨rfl, b3⟩
        · have q0 : (q == 0) = false := by have := EQ.out; simp; omega
          have HN := Lib.hid (dec_next H.out h10)
          go_wp2_with (at_builtin; refine wpList_append_own_none rfl (.tmp 16) (.tmp 17) 66 rfl w.heap.size 5 i0 1 Tryd.underlying66 hi _ 1 _ rfl own0 rfl ?_)
          go_wp2
          go_roundw
          case rel => exact ⟨M / 10, q, [dch M], by omega, rfl, EQ.out, own0, b3, HN, by simp⟩
          case measure => have e1 := EQ.out; have e2 := HM.out; simp [intOf]; omega
      · have hcell := own_cell (hown.alloc (.cells #[.int .u8 (48 + -r)] 5))
        have hal2 : acc.length + 1 ≤ 20 := dec_room hdl H.out
        by_cases h10 : M < 10
        · have q0 : (q == 0) = true := by have := EQ.out; simp; omega
          go_wp2_with (at_builtin; refine wpList_append_bytes rfl (.tmp 16) (.tmp 17) rfl w.heap.size _ [dch M] rfl own0 ⟨g, 0, none⟩ acc.length cap acc rfl rfl hcell (by simp; omega) (by simp; omega) ?_)
          intro v' w3 hown' hgrow
          have b3 := grown_new hbw hsz hgrow
          obtain ⟨g', cap', rfl⟩ := own_some hown'
          have hcv := run_convert_bytes_back (P := Tryd.prog) (w3) 66 9 5 ⟨g', 0, none⟩ cap' (dch M :: acc) Tryd.underlying66 Tryd.underlying5 Tryd.underlying9 (fun j hj => World.ownsRow.cells hown' (g := g') rfl j _ (by simp only [Lib.byteCells, List.getElem?_map, List.getElem?_eq_getElem hj]; rfl))
          have HE := Lib.hid (dec_last H.out h10)
          obtain ⟨Y, hY⟩ : ∃ Y, Y = dch M :: acc := ⟨_, rfl⟩
          have hYs : ¬ 9223372036854775807 < 1 + Y.length := by rw [hY]; simp; omega
          rw [← hY] at hcv HE hown' ⊢
          clear hY hown' hgrow
          go_wp2
          go_ret
          rw [← HE.out]
          exact ⟨rfl, b3⟩
        · have q0 : (q == 0) = false := by have := EQ.out; simp; omega
          have HN := Lib.hid (dec_next H.out h10)
          go_wp2_with (at_builtin; refine wpList_append_bytes rfl (.tmp 16) (.tmp 17) rfl w.heap.size _ [dch M] rfl own0 ⟨g, 0, none⟩ acc.length cap acc rfl rfl hcell (by simp; omega) (by simp; omega) ?_)
          intro v' w3 hown' hgrow
          have b3 := grown_new hbw hsz hgrow
          go_wp2
          go_roundw
          case rel => exact ⟨M / 10, q, dch M :: acc, by omega, rfl, EQ.out, hown', b3, HN, by simp; omega⟩
          case measure => have e1 := EQ.out; have e2 := HM.out; simp [intOf]; omega
    · obtain rfl : r = 0 := by omega
      have own0 := own_digit w.heap.size wr M 48 (by have := ER.out; omega) hsz
      rcases hown.2 with ⟨rfl, h0⟩ | ⟨g, cap, cur, rfl, _⟩
      · obtain rfl := List.eq_nil_of_length_eq_zero h0
        clear hown
        have b3 : Below w.heap.size w (wr.alloc (.cells #[.int .u8 (48)] 5)) := hbw.alloc hsz _
        by_cases h10 : M < 10
        · have q0 : (q == 0) = true := by have := EQ.out; simp; omega
          have hcv := run_convert_bytes_back (P := Tryd.prog) (wr.alloc (.cells #[.int .u8 (48)] 5)) 66 9 5 ⟨wr.heap.size, 0, none⟩ 1 [dch M] Tryd.underlying66 Tryd.underlying5 Tryd.underlying9 (fun j hj => World.ownsRow.cells own0 (g := wr.heap.size) rfl j _ (by simp only [Lib.byteCells, List.getElem?_map, List.getElem?_eq_getElem hj]; rfl))
          have HE := Lib.hid (dec_last H.out h10)
          obtain ⟨Y, hY⟩ : ∃ Y, Y = [dch M] := ⟨_, rfl⟩
          have hYs : ¬ 9223372036854775807 < 1 + Y.length := by rw [hY]; simp
          have hYl : [dch M].length = 1 := rfl
          rw [hYl, ← hY] at hcv
          rw [← hY] at HE
          clear hY hYl
          go_wp2_with (at_builtin; refine wpList_append_own_none rfl (.tmp 16) (.tmp 17) 66 rfl w.heap.size 5 i0 1 Tryd.underlying66 hi _ 1 _ rfl own0 rfl ?_)
          go_wp2
          go_ret
          rw [← HE.out]
          exact ⟨rfl, b3⟩
        · have q0 : (q == 0) = false := by have := EQ.out; simp; omega
          have HN := Lib.hid (dec_next H.out h10)
          go_wp2_with (at_builtin; refine wpList_append_own_none rfl (.tmp 16) (.tmp 17) 66 rfl w.heap.size 5 i0 1 Tryd.underlying66 hi _ 1 _ rfl own0 rfl ?_)
          go_wp2
          go_roundw
          case rel => exact ⟨M / 10, q, [dch M], by omega, rfl, EQ.out, own0, b3, HN, by simp⟩
          case measure => have e1 := EQ.out; have e2 := HM.out; simp [intOf]; omega
      · have hcell := own_cell (hown.alloc (.cells #[.int .u8 (48)] 5))
        have hal2 : acc.length + 1 ≤ 20 := dec_room hdl H.out
        by_cases h10 : M < 10
        · have q0 : (q == 0) = true := by have := EQ.out; simp; omega
          go_wp2_with (at_builtin; refine wpList_append_bytes rfl (.tmp 16) (.tmp 17) rfl w.heap.size _ [dch M] rfl own0 ⟨g, 0, none⟩ acc.length cap acc rfl rfl hcell (by simp; omega) (by simp; omega) ?_)
          intro v' w3 hown' hgrow
          have b3 := grown_new hbw hsz hgrow
          obtain ⟨g', cap', rfl⟩ := own_some hown'
          have hcv := run_convert_bytes_back (P := Tryd.prog) (w3) 66 9 5 ⟨g', 0, none⟩ cap' (dch M :: acc) Tryd.underlying66 Tryd.underlying5 Tryd.underlying9 (fun j hj => World.ownsRow.cells hown' (g := g') rfl j _ (by simp only [Lib.byteCells, List.getElem?_map, List.getElem?_eq_getElem hj]; rfl))
          have HE := Lib.hid (dec_last H.out h10)
          obtain ⟨Y, hY⟩ : ∃ Y, Y = dch M :: acc := ⟨_, rfl⟩
          have hYs : ¬ 9223372036854775807 < 1 + Y.length := by rw [hY]; simp; omega
          rw [← hY] at hcv HE hown' ⊢
          clear hY hown' hgrow
          go_wp2
          go_ret
          rw [← HE.out]
          exact ⟨rfl, b3⟩
        · have q0 : (q == 0) = false := by have := EQ.out; simp; omega
          have HN := Lib.hid (dec_next H.out h10)
          go_wp2_with (at_builtin; refine wpList_append_bytes rfl (.tmp 16) (.tmp 17) rfl w.heap.size _ [dch M] rfl own0 ⟨g, 0, none⟩ acc.length cap acc rfl rfl hcell (by simp; omega) (by simp; omega) ?_)
          intro v' w3 hown' hgrow
          have b3 := grown_new hbw hsz hgrow
          go_wp2
          go_roundw
          case rel => exact ⟨M / 10, q, dch M :: acc, by omega, rfl, EQ.out, hown', b3, HN, by simp; omega⟩
          case measure => have e1 := EQ.out; have e2 := HM.out; simp [intOf]; omega

theorem digits_any (n : Int) (h0 : -9223372036854775808 ≤ n) (h1 : n ≤ 9223372036854775807) (w : World) :
    Calls Tryd.prog 32 #[.int .i64 n] w fun e w' => e = .returned (.string ⟨(Lib.itoa n).toArray⟩) ∧ Below w.heap.size w w' := by
  unfold Lib.itoa
  split
  · rename_i hn
    have := digits_neg n.natAbs (by omega) (by omega) w
    rw [show -(n.natAbs : Int) = n by omega] at this
    refine this.mono ?_
    rintro e w' ⟨rfl, hb⟩
    exact ⟨by rw [show (45 :: Lib.decDigits n.natAbs) = [45] ++ Lib.decDigits n.natAbs from rfl, ← str_app], hb⟩
  · rename_i hn
    have := digits_pos n.toNat (by omega) w
    rw [show (n.toNat : Int) = n by omega] at this
    exact this
end Go.Proofs.YtponiboiijgllaaDoor

/- What the reference's Show answers of any few and short words: what lex.Show does. No condition else. -/
namespace Go.Proofs.YtponiboiijgllaaDoor
open Go.RowKit
set_option maxRecDepth 100000

theorem add_sz (a b : ByteArray) : (a ++ b).size = a.size + b.size := ByteArray.size_append
theorem cat1 {S T : ByteArray} {acc y : List UInt8} (hS : S = ⟨acc.toArray⟩) (hT : T = ⟨y.toArray⟩) : S ++ T = ⟨(acc ++ y).toArray⟩ := by rw [hS, hT, str_app]
theorem cat2 {S T : ByteArray} {acc y : List UInt8} (hS : S = ⟨acc.toArray⟩) (hT : T = ⟨y.toArray⟩) : S ++ ⟨#[32]⟩ ++ T = ⟨(acc ++ [32] ++ y).toArray⟩ := by rw [hS, hT, show (⟨#[32]⟩ : ByteArray) = ⟨[32].toArray⟩ from rfl, str_app, str_app]

set_option maxHeartbeats 4000000 in
theorem refshow_nil (a : Option Addr) (c : Nat) (w : World) : Calls Tryd.prog 18 #[.slice a 0 c] w fun e w' => e = .returned (.tuple #[.string ⟨#[]⟩, .int .i64 0]) ∧ Below w.heap.size w w' := by
  go_enter Tryd.func18, Tryd.ntmps18
  go_wp2
  go_rounds 1
  go_ret2
  exact ⟨rfl, Below.refl _ _⟩

set_option maxHeartbeats 4000000 in
theorem refshow_row (l : List Bx) (hl : l.length ≤ 60) (hb : ∀ b ∈ l, BxOk b) (w : World) (g c : Nat) (hg : g < w.heap.size) (hc : ∀ k (hk : k < l.length), w.cell? ⟨g, k * 3, none⟩ = some (.int .i64 (l[k]'hk).kd) ∧ w.cell? ⟨g, k * 3 + 1, none⟩ = some (.int .i64 (l[k]'hk).int) ∧ w.cell? ⟨g, k * 3 + 2, none⟩ = some (.string (l[k]'hk).str)) :
    Calls Tryd.prog 18 #[.slice (some ⟨g, 0, none⟩) l.length c] w fun e w' => e = .returned (showV (showGo true l)) ∧ Below w.heap.size w w' := by
  have HC := Lib.hid hc
  have HB := Lib.hid hb
  clear hc hb
  go_enter Tryd.func18, Tryd.ntmps18
  go_wp2
  go_loopw [4, 5] (fun sv i wr => ∃ (k : Nat) (S : ByteArray) (acc : List UInt8), k ≤ l.length ∧ i = .int .i64 k ∧ sv = .string S ∧ Hid (S = ⟨acc.toArray⟩) ∧ Below w.heap.size w wr ∧ Hid ((showGo (k == 0) (l.drop k)).map (acc ++ ·) = showGo true l) ∧ S.size ≤ 1000 * k) (fun _ i _ => l.length - (intOf i).toNat)
  case atStart => exact ⟨0, ⟨#[]⟩, [], by omega, rfl, rfl, Lib.hid rfl, Below.refl _ _, Lib.hid (by simp), by show (0 : Nat) ≤ _; omega⟩
  case round =>
    obtain ⟨k, S, acc, hk, rfl, rfl, HS, hbw, H, hal⟩ := hrel
    have hsz := hbw.size
    by_cases hp : k < l.length
    · have hi : (k : Int) < (l.length : Int) := by omega
      obtain ⟨x, hx⟩ : ∃ x, x = l[k]'hp := ⟨_, rfl⟩
      obtain ⟨e1, e2, e3⟩ := HC.out k hp
      rw [← hx] at e1 e2 e3
      have c1 := keep hbw e1 hg
      have c2 := keep hbw e2 hg
      have c3 := keep hbw e3 hg
      have hxb : BxOk x := by rw [hx]; exact HB.out _ (List.getElem_mem hp)
      have hg2 : g < wr.heap.size := by omega
      have HX := Lib.hid hx
      clear hx e1 e2 e3
      obtain ⟨hb1, hb2, hb3⟩ := hxb
      cases x with
      | no =>
        simp only [Bx.kd, Bx.int, Bx.str] at c1 c2 c3
        have HN := Lib.hid (show_none hp (by rw [← HX.out]; rfl) H.out)
        go_wp2
        go_ret2
        rw [HN.out]
        exact ⟨rfl, hbw⟩
      | num n =>
        simp only [Bx.kd, Bx.int, Bx.str] at c1 c2 c3 hb2 hb3
        have hil := Lib.itoa_length_le n hb2 hb3
        have hd := digits_any n hb2 hb3
        obtain ⟨T, hT⟩ : ∃ T : ByteArray, T = ⟨(Lib.itoa n).toArray⟩ := ⟨_, rfl⟩
        rw [← hT] at hd
        have hTs : T.size ≤ 900 := by rw [hT]; show (Lib.itoa n).toArray.size ≤ _; simp; omega
        have hnm := fun W => refNumber_any T W (by omega)
        rw [show T.data.toList = Lib.itoa n by rw [hT]] at hnm
        have HT := Lib.hid hT
        clear hT
        go_wp2_with fail
        refine (hd _).mono ?_
        rintro e w1 ⟨rfl, b1⟩
        have hB := hbw.trans (b1.mono hsz)
        have s1 := b1.size
        have c1' := keep b1 c1 hg2
        cases hn : numL (Lib.itoa n) with
        | none =>
          have HN := Lib.hid (show_none hp (by rw [← HX.out]; simp only [showW]; rw [hn]; rfl) H.out)
          rw [hn] at hnm
          simp only [numV] at hnm
          clear hn
          go_wp2_with fail
          refine (hnm _).mono ?_
          rintro e w2 ⟨rfl, rfl⟩
          go_wp2
          go_ret2
          rw [HN.out]
          exact ⟨rfl, hB⟩
        | some m =>
          have HN := Lib.hid (show_some hp (x := Lib.itoa n) (by rw [← HX.out]; simp only [showW]; rw [hn]; rfl) H.out)
          rw [hn] at hnm
          simp only [numV] at hnm
          clear hn
          go_wp2_with fail
          refine (hnm _).mono ?_
          rintro e w2 ⟨rfl, rfl⟩
          have n1 : ¬ 9223372036854775807 < S.size + 1 := by omega
          have n2 : ¬ 9223372036854775807 < S.size + 1 + T.size := by omega
          have n3 : ¬ 9223372036854775807 < S.size + T.size := by omega
          by_cases h0 : k = 0
          · have h0' : ¬ (0 : Int) < (k : Int) := by omega
            have H0 := Lib.hid h0
            clear h0
            go_wp2
            go_roundw
            case rel => exact ⟨k + 1, S ++ T, acc ++ (Lib.itoa n), by omega, by go_num, rfl, Lib.hid (cat1 HS.out HT.out), hB, Lib.hid (by have := HN.out; rw [if_pos H0.out, List.append_nil] at this; exact this), by rw [add_sz]; omega⟩
            case measure => simp [intOf]; omega
          · have h0' : (0 : Int) < (k : Int) := by omega
            go_wp2
            go_roundw
            case rel => exact ⟨k + 1, S ++ ⟨#[32]⟩ ++ T, acc ++ [32] ++ (Lib.itoa n), by omega, by go_num, rfl, Lib.hid (cat2 HS.out HT.out), hB, Lib.hid (by have := HN.out; rw [if_neg h0] at this; exact this), by rw [add_sz, add_sz]; show S.size + 1 + T.size ≤ _; omega⟩
            case measure => simp [intOf]; omega
      | nam T =>
        simp only [Bx.kd, Bx.int, Bx.str] at c1 c2 c3 hb1
        have hnm := fun W => refName_any T W (by omega)
        have hTs : T.size ≤ 900 := by omega
        have hB := hbw
        cases hn : nameL T.data.toList with
        | false =>
          have HN := Lib.hid (show_none hp (by rw [← HX.out]; simp only [showW]; rw [hn]; rfl) H.out)
          rw [hn] at hnm
          clear hn
          go_wp2_with fail
          refine (hnm _).mono ?_
          rintro e w2 ⟨rfl, rfl⟩
          go_wp2
          go_ret2
          rw [HN.out]
          exact ⟨rfl, hB⟩
        | true =>
          have HN := Lib.hid (show_some hp (x := T.data.toList) (by rw [← HX.out]; simp only [showW]; rw [hn]; rfl) H.out)
          rw [hn] at hnm
          clear hn
          go_wp2_with fail
          refine (hnm _).mono ?_
          rintro e w2 ⟨rfl, rfl⟩
          have n1 : ¬ 9223372036854775807 < S.size + 1 := by omega
          have n2 : ¬ 9223372036854775807 < S.size + 1 + T.size := by omega
          have n3 : ¬ 9223372036854775807 < S.size + T.size := by omega
          by_cases h0 : k = 0
          · have h0' : ¬ (0 : Int) < (k : Int) := by omega
            have H0 := Lib.hid h0
            clear h0
            go_wp2
            go_roundw
            case rel => exact ⟨k + 1, S ++ T, acc ++ (T.data.toList), by omega, by go_num, rfl, Lib.hid (cat1 HS.out rfl), hB, Lib.hid (by have := HN.out; rw [if_pos H0.out, List.append_nil] at this; exact this), by rw [add_sz]; omega⟩
            case measure => simp [intOf]; omega
          · have h0' : (0 : Int) < (k : Int) := by omega
            go_wp2
            go_roundw
            case rel => exact ⟨k + 1, S ++ ⟨#[32]⟩ ++ T, acc ++ [32] ++ (T.data.toList), by omega, by go_num, rfl, Lib.hid (cat2 HS.out rfl), hB, Lib.hid (by have := HN.out; rw [if_neg h0] at this; exact this), by rw [add_sz, add_sz]; show S.size + 1 + T.size ≤ _; omega⟩
            case measure => simp [intOf]; omega
      | txt s =>
        simp only [Bx.kd, Bx.int, Bx.str] at c1 c2 c3 hb1
        have hql := quote_size s.data.toList
        rw [len_data] at hql
        have hd := fun W => refquote_any s W (by omega)
        obtain ⟨T, hT⟩ : ∃ T : ByteArray, T = ⟨(quoteL s.data.toList).toArray⟩ := ⟨_, rfl⟩
        rw [← hT] at hd
        have hTs : T.size ≤ 900 := by rw [hT]; show (quoteL s.data.toList).toArray.size ≤ _; simp; omega
        have HT := Lib.hid hT
        have HN := Lib.hid (show_some hp (x := quoteL s.data.toList) (by rw [← HX.out]; rfl) H.out)
        clear hT
        go_wp2_with fail
        refine (hd _).mono ?_
        rintro e w1 ⟨rfl, b1⟩
        have hB := hbw.trans (b1.mono hsz)
        have s1 := b1.size
        have n1 : ¬ 9223372036854775807 < S.size + 1 := by omega
        have n2 : ¬ 9223372036854775807 < S.size + 1 + T.size := by omega
        have n3 : ¬ 9223372036854775807 < S.size + T.size := by omega
        by_cases h0 : k = 0
        · have h0' : ¬ (0 : Int) < (k : Int) := by omega
          have H0 := Lib.hid h0
          clear h0
          go_wp2
          go_roundw
          case rel => exact ⟨k + 1, S ++ T, acc ++ (quoteL s.data.toList), by omega, by go_num, rfl, Lib.hid (cat1 HS.out HT.out), hB, Lib.hid (by have := HN.out; rw [if_pos H0.out, List.append_nil] at this; exact this), by rw [add_sz]; omega⟩
          case measure => simp [intOf]; omega
        · have h0' : (0 : Int) < (k : Int) := by omega
          go_wp2
          go_roundw
          case rel => exact ⟨k + 1, S ++ ⟨#[32]⟩ ++ T, acc ++ [32] ++ (quoteL s.data.toList), by omega, by go_num, rfl, Lib.hid (cat2 HS.out HT.out), hB, Lib.hid (by have := HN.out; rw [if_neg h0] at this; exact this), by rw [add_sz, add_sz]; show S.size + 1 + T.size ≤ _; omega⟩
          case measure => simp [intOf]; omega
    · have hi : ¬ (k : Int) < (l.length : Int) := by omega
      have HN : Hid (showGo true l = some acc) := by
        have := H.out
        rw [List.drop_eq_nil_of_le (by omega), showGo_nil] at this
        exact Lib.hid (by rw [← this]; simp)
      go_wp2
      go_ret2
      rw [HN.out, HS.out]
      exact ⟨rfl, hbw⟩

theorem refshow_any (l : List Bx) (hl : l.length ≤ 60) (hb : ∀ b ∈ l, BxOk b) (w : World) (v : Value) (hv : SeesR w v l) :
    Calls Tryd.prog 18 #[v] w fun e w' => e = .returned (showV (showGo true l)) ∧ Below w.heap.size w w' := by
  rcases hv with ⟨rfl, a, c, rfl⟩ | ⟨g, c, rfl, hg, hc⟩
  · exact refshow_nil a c w
  · exact refshow_row l hl hb w g c hg hc
end Go.Proofs.YtponiboiijgllaaDoor

/- What the law's Boxes answers of any row of the reference's boxes: the code's, or that they are too many or too long. No condition but that the row lies there. -/
namespace Go.Proofs.YtponiboiijgllaaDoor
open Go.RowKit
set_option maxRecDepth 100000
/-- A box as it was handed in: kind, number, text. -/
abbrev Raw := Int × Int × ByteArray
def Raw.bx (r : Raw) : Bx := ofZ r.1 r.2.1 r.2.2
def rawB (R : List Raw) : List Bx := R.map Raw.bx
def Short (R : List Raw) : Prop := R.length ≤ 60 ∧ ∀ r ∈ R, r.2.2.size ≤ 200
/-- A row of boxes that was handed in. -/
def RawAt (w : World) (g o : Nat) (R : List Raw) : Prop := ∀ k (hk : k < R.length), w.cell? ⟨g, o + k * 3, none⟩ = some (.int .i64 (R[k]'hk).1) ∧ w.cell? ⟨g, o + k * 3 + 1, none⟩ = some (.int .i64 (R[k]'hk).2.1) ∧ w.cell? ⟨g, o + k * 3 + 2, none⟩ = some (.string (R[k]'hk).2.2)
def SeesP (w : World) (v : Value) (R : List Raw) : Prop := (R = [] ∧ ∃ a c, v = .slice a 0 c) ∨ ∃ g o c, v = .slice (some ⟨g, o, none⟩) R.length c ∧ g < w.heap.size ∧ RawAt w g o R
theorem rawB_len (R : List Raw) : (rawB R).length = R.length := by simp [rawB]
theorem raw_take {R : List Raw} {k : Nat} (hk : k < R.length) : (rawB R).take (k + 1) = (rawB R).take k ++ [(R[k]'hk).bx] := by
  rw [List.take_add_one]
  simp [rawB, List.getElem?_eq_getElem hk]
theorem raw_all {R : List Raw} {k : Nat} (hk : R.length ≤ k) : (rawB R).take k = rawB R := List.take_of_length_le (by rw [rawB_len]; omega)
/-- What Boxes leaves. -/
def BoxesRes (R : List Raw) (w : World) (e : Ending) (w' : World) : Prop := ((Short R ∧ ∃ v, e = .returned (.tuple #[v, .bool true]) ∧ OwnT 52 1 w' w.heap.size v (rawB R).length (boxRow (rawB R))) ∨ (¬ Short R ∧ e = .returned (.tuple #[.slice none 0 0, .bool false]))) ∧ Below w.heap.size w w'
theorem boxes_nil (a : Option Addr) (c : Nat) (w : World) : Calls Tryd.prog 15 #[.slice a 0 c] w (BoxesRes [] w) := by
  go_enter Tryd.func15, Tryd.ntmps15
  go_wp2
  go_rounds 1
  go_ret2
  exact ⟨.inl ⟨⟨by simp, by simp⟩, _, rfl, OwnT.nil _ _ _ _⟩, Below.refl _ _⟩
theorem boxes_long (R : List Raw) (a : Option Addr) (c : Nat) (w : World) (hl : ¬ R.length ≤ 60) : Calls Tryd.prog 15 #[.slice a R.length c] w (BoxesRes R w) := by
  have hl' : (60 : Int) < (R.length : Int) := by omega
  go_enter Tryd.func15, Tryd.ntmps15
  go_wp2
  go_ret2
  exact ⟨.inr ⟨fun h => hl h.1, rfl⟩, Below.refl _ _⟩
set_option maxHeartbeats 4000000 in
theorem boxes_row (R : List Raw) (g o c : Nat) (w : World) (hl : R.length ≤ 60) (hg : g < w.heap.size) (hc : RawAt w g o R) :
    Calls Tryd.prog 15 #[.slice (some ⟨g, o, none⟩) R.length c] w (BoxesRes R w) := by
  have HC := Lib.hid hc
  clear hc
  have hl' : (R.length : Int) ≤ 60 := by omega
  go_enter Tryd.func15, Tryd.ntmps15
  go_wp2
  go_loopw [4, 5] (fun v i wr => ∃ (k : Nat) (L : List Bx), k ≤ R.length ∧ i = .int .i64 k ∧ OwnT 52 1 wr w.heap.size v L.length (boxRow L) ∧ L.length = k ∧ Hid (L = (rawB R).take k) ∧ Hid (∀ r ∈ R.take k, r.2.2.size ≤ 200) ∧ Below w.heap.size w wr) (fun _ i _ => R.length - (intOf i).toNat)
  case atStart => exact ⟨0, [], by omega, rfl, OwnT.nil _ _ _ _, rfl, Lib.hid rfl, Lib.hid (by simp), Below.refl _ _⟩
  case round =>
    obtain ⟨k, L, hk, rfl, hown, hL, HL, HS, hb⟩ := hrel
    have hsz := hb.size
    by_cases hp : k < R.length
    · have hi : (k : Int) < (R.length : Int) := by omega
      obtain ⟨x, hx⟩ : ∃ x, x = R[k]'hp := ⟨_, rfl⟩
      obtain ⟨c1, c2, c3⟩ := HC.out k hp
      rw [← hx] at c1 c2 c3
      have HT := Lib.hid (raw_take hp)
      rw [← hx] at HT
      have hR : R.take (k + 1) = R.take k ++ [x] := by rw [List.take_add_one, List.getElem?_eq_getElem hp, hx]; rfl
      have HR := Lib.hid hR
      have hxm : x ∈ R := by rw [hx]; exact List.getElem_mem hp
      have HXM := Lib.hid hxm
      clear hR hxm hx
      obtain ⟨x1, x2, x3⟩ := x
      have e1 := keep hb c1 hg
      have e2 := keep hb c2 hg
      have e3 := keep hb c3 hg
      have hg2 : g < wr.heap.size := by omega
      simp only at e1 e2 e3
      clear c1 c2 c3
      by_cases h200 : x3.size ≤ 200
      · have h200' : (x3.size : Int) ≤ 200 := by omega
        go_wp2_with fail
        refine (of_any x1 x2 x3 _).mono ?_
        rintro e w1 ⟨rfl, b1⟩
        have s1 := b1.size
        have hown1 := hown.below b1
        go_wp2_with (at_builtin; refine wpList_append_box rfl (.tmp 22) (.tmp 28) rfl w.heap.size _ L rfl (hown1.alloc _) ⟨w1.heap.size, 0, none⟩ 1 (ofZ x1 x2 x3) rfl (news_one _ _ _) (by omega) (by simp; omega) ?_)
        intro v' w3 hown' hgrow
        have hb3 := below_own (hb.trans (b1.mono hsz)) hown1 hgrow
        go_wp2
        go_roundw
        case rel => exact ⟨k + 1, L ++ [ofZ x1 x2 x3], by omega, by go_num, by rw [List.length_append, hL]; exact hown', by simp; omega, Lib.hid (by rw [HT.out, ← HL.out]; rfl), Lib.hid (by rw [HR.out]; intro r hr; rw [List.mem_append] at hr; rcases hr with hr | hr; exact HS.out r hr; simp at hr; subst hr; exact h200), hb3⟩
        case measure => simp [intOf]; omega
      · have h200' : (200 : Int) < (x3.size : Int) := by omega
        go_wp2
        go_ret2
        exact ⟨.inr ⟨fun h => h200 (h.2 _ HXM.out), rfl⟩, hb⟩
    · have hi : ¬ (k : Int) < (R.length : Int) := by omega
      have hLe : L = rawB R := by rw [HL.out]; exact raw_all (by omega)
      have HLe := Lib.hid hLe
      have hS : Short R := ⟨hl, by have := HS.out; rw [List.take_of_length_le (by omega)] at this; exact this⟩
      have HSS := Lib.hid hS
      clear hLe hS
      go_wp2
      go_ret2
      refine ⟨.inl ⟨HSS.out, _, rfl, ?_⟩, hb⟩
      rw [← HLe.out]
      exact hown
theorem boxes_any (R : List Raw) (v : Value) (w : World) (h : SeesP w v R) : Calls Tryd.prog 15 #[v] w (BoxesRes R w) := by
  rcases h with ⟨rfl, a, c, rfl⟩ | ⟨g, o, c, rfl, hg, hc⟩
  · exact boxes_nil a c w
  · by_cases hl : R.length ≤ 60
    · exact boxes_row R g o c w hl hg hc
    · exact boxes_long R _ c w hl
end Go.Proofs.YtponiboiijgllaaDoor

/- LexShows answers true at every row of boxes. Conditions: the row lies there, its numbers are the machine's; the library's own variables are as a start leaves them. -/
namespace Go.Proofs.YtponiboiijgllaaDoor
open Go.RowKit
set_option maxRecDepth 100000

theorem refplain_agg (k n : Int) (s : ByteArray) (w : World) : Calls Tryd.prog 16 #[.agg #[.int .i64 k, .int .i64 n, .string s]] w fun e w' => e = .returned (.agg #[.int .i64 (ofZ k n s).kd, .int .i64 (ofZ k n s).int, .string (ofZ k n s).str]) ∧ Below w.heap.size w w' := refplain_any k n s w
def RawOk (R : List Raw) : Prop := ∀ r ∈ R, -9223372036854775808 ≤ r.2.1 ∧ r.2.1 ≤ 9223372036854775807
theorem raw_ok {R : List Raw} (h : RawOk R) (hs : Short R) : ∀ b ∈ rawB R, BxOk b := by
  intro b hb
  unfold rawB at hb
  rw [List.mem_map] at hb
  obtain ⟨r, hr, rfl⟩ := hb
  have h1 := h r hr
  have h2 := hs.2 r hr
  unfold Raw.bx ofZ BxOk
  have z : (⟨#[]⟩ : ByteArray).size = 0 := rfl
  split
  · exact ⟨by simp only [Bx.str]; omega, h1.1, h1.2⟩
  · split
    · exact ⟨by simp only [Bx.str]; omega, by simp only [Bx.int]; omega, by simp only [Bx.int]; omega⟩
    · split
      · exact ⟨by simp only [Bx.str]; omega, by simp only [Bx.int]; omega, by simp only [Bx.int]; omega⟩
      · exact ⟨by simp only [Bx.str]; omega, by simp only [Bx.int]; omega, by simp only [Bx.int]; omega⟩

set_option maxHeartbeats 4000000 in
theorem shows_long (R : List Raw) (v : Value) (w : World) (h : SeesP w v R) (hlib : LibOk w) (hs : ¬ Short R) : Calls Tryd.prog 5 #[v] w fun e w' => e = .returned (.bool true) ∧ Below w.heap.size w w' := by
  have hB := boxes_any R v w h
  go_enter Tryd.func5, Tryd.ntmps5
  go_wp2_with fail
  refine hB.mono ?_
  rintro e w1 ⟨⟨h1, _⟩ | ⟨_, rfl⟩, b1⟩
  · exact absurd h1 hs
  have s1 := b1.size
  have l1 := hlib.next b1
  go_wp2_with fail
  refine (lexAwake_any w1 l1).mono ?_
  rintro e w2 ⟨rfl, b2⟩
  have s2 := b2.size
  have l2 := l1.next b2
  go_wp2_with fail
  refine (lexAwake_any w2 l2).mono ?_
  rintro e w3 ⟨rfl, b3⟩
  go_wp2
  go_ret
  exact ⟨rfl, (b1.trans (b2.mono s1)).trans (b3.mono (by omega))⟩

set_option maxHeartbeats 4000000 in
theorem shows_row (R : List Raw) (hR0 : R ≠ []) (hR : RawOk R) (g o c : Nat) (w : World) (hg : g < w.heap.size) (hc : RawAt w g o R) (hlib : LibOk w) (htab : TabOk w) (hs : Short R) : Calls Tryd.prog 5 #[.slice (some ⟨g, o, none⟩) R.length c] w fun e w' => e = .returned (.bool true) ∧ Below w.heap.size w w' := by
  have hBx := raw_ok hR hs
  have hl := hs.1
  have hB := boxes_row R g o c w hl hg hc
  have HC := Lib.hid hc
  have HSS := Lib.hid hs
  have hlen := rawB_len R
  have hne : rawB R ≠ [] := fun k => hR0 (List.eq_nil_of_length_eq_zero (by rw [← hlen, k]; rfl))
  have HNE := Lib.hid hne
  have HBX := Lib.hid hBx
  have hpos : (R.length == 0) = false := by
    rw [beq_eq_false_iff_ne]
    intro k
    exact hR0 (List.eq_nil_of_length_eq_zero k)
  clear hc hBx hR hne hR0 hs
  go_enter Tryd.func5, Tryd.ntmps5
  go_wp2_with fail
  refine hB.mono ?_
  rintro e w1 ⟨⟨_, v1, rfl, ho1⟩ | ⟨h1, _⟩, b1⟩
  rotate_left
  · exact absurd HSS.out h1
  have s1 := b1.size
  have l1 := hlib.next b1
  have t1 := htab.next b1
  have S1 := Lib.hid ho1.seesB
  clear ho1 hB
  go_wp2_with fail
  refine (lexAwake_any w1 l1).mono ?_
  rintro e w2 ⟨rfl, b2⟩
  have s2 := b2.size
  have l2 := l1.next b2
  have t2 := t1.next b2
  have S2 := Lib.hid (S1.out.below b2)
  have b12 := b1.trans (b2.mono s1)
  have s12 := b12.size
  clear S1 b2 l1 t1
  go_wp2
  go_loopw [5, 6] (fun v i wr => ∃ (k : Nat) (L : List Bx), k ≤ R.length ∧ i = .int .i64 k ∧ OwnT 43 3 wr w2.heap.size v L.length (refRow L) ∧ L.length = k ∧ Hid (L = (rawB R).take k) ∧ Below w2.heap.size w2 wr) (fun _ i _ => R.length - (intOf i).toNat)
  case atStart => exact ⟨0, [], by omega, rfl, OwnT.nil _ _ _ _, rfl, Lib.hid rfl, Below.refl _ _⟩
  case round =>
    obtain ⟨k, L, hk, rfl, hown, hL, HL, hb⟩ := hrel
    have hsz := hb.size
    by_cases hp : k < R.length
    · have hi : (k : Int) < (R.length : Int) := by omega
      obtain ⟨x, hx⟩ : ∃ x, x = R[k]'hp := ⟨_, rfl⟩
      obtain ⟨c1, c2, c3⟩ := HC.out k hp
      rw [← hx] at c1 c2 c3
      have HT := Lib.hid (raw_take hp)
      rw [← hx] at HT
      clear hx
      obtain ⟨x1, x2, x3⟩ := x
      have bb := b12.trans (hb.mono s12)
      have e1 := keep bb c1 hg
      have e2 := keep bb c2 hg
      have e3 := keep bb c3 hg
      have hg2 : g < wr.heap.size := by omega
      simp only at e1 e2 e3
      clear c1 c2 c3 bb
      go_wp2_with fail
      refine (refplain_agg x1 x2 x3 _).mono ?_
      rintro e w3 ⟨rfl, b3⟩
      have s3 := b3.size
      have hown1 := hown.below b3
      go_wp2_with (at_builtin; refine wpList_append_ref rfl (.tmp 32) (.tmp 38) rfl w2.heap.size _ L rfl (hown1.alloc _) ⟨w3.heap.size, 0, none⟩ 1 (ofZ x1 x2 x3) rfl (cells_three _ _ _ _ _) (by omega) (by simp; omega) ?_)
      intro v' w4 hown' hgrow
      have hb3 := below_own (hb.trans (b3.mono hsz)) hown1 hgrow
      go_wp2
      go_roundw
      case rel => exact ⟨k + 1, L ++ [ofZ x1 x2 x3], by omega, by go_num, by rw [List.length_append, hL]; exact hown', by simp; omega, Lib.hid (by rw [HT.out, ← HL.out]; rfl), hb3⟩
      case measure => simp [intOf]; omega
    · have hi : ¬ (k : Int) < (R.length : Int) := by omega
      have hLe : L = rawB R := by rw [HL.out]; exact raw_all (by omega)
      have l3 := l2.next hb
      have t3 := t2.next hb
      have S3 := Lib.hid (S2.out.below hb)
      have P3 := Lib.hid hown.seesR
      rw [hLe] at P3
      have b13 := b12.trans (hb.mono s12)
      have s13 := b13.size
      clear hLe HL hown hb S2 l2 t2 hL
      have cs := show_any (rawB R) (by omega) HBX.out wr t3 v1 S3.out
      have cr := fun W h => refshow_any (rawB R) (by omega) HBX.out W u5 h
      cases hsg : showGo true (rawB R) with
      | none =>
        rw [hsg] at cs cr
        simp only [showV] at cs cr
        clear hsg
        go_wp2_with fail
        refine cs.mono ?_
        rintro e w4 ⟨rfl, b4⟩
        have s4 := b4.size
        have P4 := P3.out.below b4
        clear cs
        go_wp2_with fail
        refine (cr _ P4).mono ?_
        rintro e w5 ⟨rfl, b5⟩
        have hbe := (b13.trans (b4.mono s13)).trans (b5.mono (by omega))
        clear cr P4
        go_wp2
        go_ret
        exact ⟨rfl, hbe⟩
      | some y =>
        obtain ⟨T, hT⟩ : ∃ T : ByteArray, T = ⟨y.toArray⟩ := ⟨_, rfl⟩
        have hTy : T.data.toList = y := by rw [hT]
        rw [hsg] at cs cr
        simp only [showV] at cs cr
        rw [← hT] at cs cr
        obtain ⟨hbad, hgood⟩ := shows_back hsg
        rw [← hTy] at hbad hgood
        rw [if_neg HNE.out] at hgood
        have HG := Lib.hid hgood
        have HBD := Lib.hid hbad
        clear hsg hT hTy hgood hbad
        by_cases hsz2 : T.size ≤ 20000
        · have hsz2' : (T.size : Int) ≤ 20000 := by omega
          have cl := fun W h => lines_good T W hsz2 h HBD.out
          rw [HG.out] at cl
          clear hsz2
          go_wp2_with fail
          refine cs.mono ?_
          rintro e w4 ⟨rfl, b4⟩
          have s4 := b4.size
          have P4 := P3.out.below b4
          have l4 := l3.next b4
          clear cs
          go_wp2_with fail
          refine (cr _ P4).mono ?_
          rintro e w5 ⟨rfl, b5⟩
          have s5 := b5.size
          have P5 := P4.below b5
          have l5 := l4.next b5
          have b15 := (b13.trans (b4.mono s13)).trans (b5.mono (by omega))
          have s15 := b15.size
          clear cr P4 l4
          go_wp2_with fail
          refine (cl _ l5).mono ?_
          rintro e w6 ⟨v6, rfl, hL6, b6⟩
          have P6 := P5.below b6
          have b16 := b15.trans (b6.mono s15)
          clear cl P5 l5
          rcases hL6 with ⟨h0, _⟩ | ⟨g6, c6, rfl, hg6, hc6⟩
          · cases h0
          obtain ⟨k1, xw, k2, k3⟩ := hc6 0 (by simp)
          simp only [List.getElem_cons_zero] at k1 k3
          have cm := fun W h1 h2 => sameB_any (w := W) (v1 := xw) (v2 := u5) (l := rawB R) (by omega) h1 h2
          have S6 := Lib.hid k3
          have PP6 := Lib.hid P6
          rcases k3 with ⟨h0, _⟩ | ⟨gx, cx, rfl, _, _⟩
          · exact absurd h0 HNE.out
          clear hc6 P6
          have cc := cm w6 S6.out PP6.out
          rw [hlen] at cc
          clear cm S6 PP6
          go_wp2_with fail
          refine cc.mono ?_
          rintro e w7 ⟨rfl, b7⟩
          have hbe := b16.trans (b7.mono b16.size)
          clear cc
          go_wp2
          go_ret
          exact ⟨rfl, hbe⟩
        · have hsz2' : (20000 : Int) < (T.size : Int) := by omega
          clear hsz2
          go_wp2_with fail
          refine cs.mono ?_
          rintro e w4 ⟨rfl, b4⟩
          have s4 := b4.size
          have P4 := P3.out.below b4
          clear cs
          go_wp2_with fail
          refine (cr _ P4).mono ?_
          rintro e w5 ⟨rfl, b5⟩
          have hbe := (b13.trans (b4.mono s13)).trans (b5.mono (by omega))
          clear cr P4
          go_wp2
          go_ret
          exact ⟨rfl, hbe⟩

set_option maxHeartbeats 4000000 in
theorem shows_nil (a : Option Addr) (c : Nat) (w : World) (hlib : LibOk w) (htab : TabOk w) : Calls Tryd.prog 5 #[.slice a 0 c] w fun e w' => e = .returned (.bool true) ∧ Below w.heap.size w w' := by
  have hB := boxes_nil a c w
  have hsb := shows_back (L := []) (y := []) (showGo_nil true)
  have hbad : badAt 1 (splitNL (⟨#[]⟩ : ByteArray).data.toList) = 0 := hsb.1
  have hgood : goodL 1 (splitNL (⟨#[]⟩ : ByteArray).data.toList) = [] := hsb.2
  have cl := fun W h => lines_good ⟨#[]⟩ W (by decide) h hbad
  rw [hgood] at cl
  have hv0 : showV (showGo true []) = .tuple #[.string ⟨#[]⟩, .int .i64 0] := by rw [showGo_nil]; rfl
  clear hsb hbad hgood
  go_enter Tryd.func5, Tryd.ntmps5
  go_wp2_with fail
  refine hB.mono ?_
  rintro e w1 ⟨⟨_, v1, rfl, ho1⟩ | ⟨h1, _⟩, b1⟩
  rotate_left
  · exact absurd ⟨by simp, by simp⟩ h1
  have s1 := b1.size
  have l1 := hlib.next b1
  have t1 := htab.next b1
  have S1 := Lib.hid (show SeesB w1 v1 [] from ho1.seesB)
  clear ho1 hB
  go_wp2_with fail
  refine (lexAwake_any w1 l1).mono ?_
  rintro e w2 ⟨rfl, b2⟩
  have s2 := b2.size
  have l2 := l1.next b2
  have t2 := t1.next b2
  have S2 := Lib.hid (S1.out.below b2)
  have b12 := b1.trans (b2.mono s1)
  have s12 := b12.size
  clear S1 b2 l1 t1
  go_wp2
  go_loopw [5, 6] (fun v i wr => v = .slice none 0 0 ∧ i = .int .i64 0 ∧ Below w2.heap.size w2 wr) (fun _ _ _ => 0)
  case atStart => exact ⟨rfl, rfl, Below.refl _ _⟩
  case round =>
    obtain ⟨rfl, rfl, hb⟩ := hrel
    have hsz := hb.size
    have l3 := l2.next hb
    have t3 := t2.next hb
    have cs := show_any [] (by simp) (by simp) wr t3 v1 (S2.out.below hb)
    have cr := fun W => refshow_nil none 0 W
    rw [hv0] at cs
    have b13 := b12.trans (hb.mono s12)
    have s13 := b13.size
    clear hb S2 l2 t2 t3 hv0
    go_wp2_with fail
    refine cs.mono ?_
    rintro e w4 ⟨rfl, b4⟩
    have s4 := b4.size
    have l4 := l3.next b4
    clear cs
    go_wp2_with fail
    refine (cr _).mono ?_
    rintro e w5 ⟨rfl, b5⟩
    have s5 := b5.size
    have l5 := l4.next b5
    have b15 := (b13.trans (b4.mono s13)).trans (b5.mono (by omega))
    have s15 := b15.size
    clear cr l4
    go_wp2_with fail
    refine (cl _ l5).mono ?_
    rintro e w6 ⟨v6, rfl, hL6, b6⟩
    have b16 := b15.trans (b6.mono s15)
    clear cl l5
    rcases hL6 with ⟨_, a6, c6, rfl⟩ | ⟨g6, c6, rfl, _, _⟩
    all_goals
      go_wp2
      go_ret
      exact ⟨rfl, b16⟩

theorem showsLaw_any (R : List Raw) (hR : RawOk R) (v : Value) (w : World) (h : SeesP w v R) (hlib : LibOk w) (htab : TabOk w) : Calls Tryd.prog 5 #[v] w fun e w' => e = .returned (.bool true) ∧ Below w.heap.size w w' := by
  by_cases hs : Short R
  · rcases h with ⟨rfl, a, c, rfl⟩ | ⟨g, o, c, rfl, hg, hc⟩
    · exact shows_nil a c w hlib htab
    · by_cases h0 : R = []
      · subst h0
        exact shows_nil _ c w hlib htab
      · exact shows_row R h0 hR g o c w hg hc hlib htab hs
  · exact shows_long R v w h hlib hs
end Go.Proofs.YtponiboiijgllaaDoor

/- A parameter that is a row of the reference's boxes: what lies in it. No condition of its own. -/
namespace Go.Proofs.YtponiboiijgllaaDoor
open Go.RowKit Go.ChangeShapes Go.WideShapes Go.Deep
set_option maxRecDepth 100000

section
variable {H : Type} {enc : TypeId × Value → H} {w : World} {base : Nat} {spare : Nat → Bool} {held : Bool}
theorem cells43 : Tryd.prog.cellsOf 43 = 3 := by kernel_rfl
theorem cells3 : Tryd.prog.cellsOf 3 = 1 := by kernel_rfl
theorem cells9 : Tryd.prog.cellsOf 9 = 1 := by kernel_rfl
theorem open_elem {n : Nat} {cs : List Value} {x : DataW H × List MemPlace} (h : DataW.trod enc Tryd.prog w base spare held n 43 cs = some x) :
    ∃ (k m : Int) (s : ByteArray), cs = [.int .i64 k, .int .i64 m, .string s] ∧ -9223372036854775808 ≤ m ∧ m ≤ 9223372036854775807 := by
  obtain ⟨ys, n', _, _, hlen, hyl, hf⟩ := DataW.trod_struct Tryd.underlying43 h
  rw [cells43] at hlen
  match cs, hlen with
  | [c0, c1, c2], _ =>
    match ys, hyl with
    | [y0, y1, y2], _ =>
      have h0 : DataW.trod enc Tryd.prog w base spare held n' 3 (([c0, c1, c2].drop 0).take (Tryd.prog.cellsOf 3)) = [y0, y1, y2][0]? := hf 0 _ rfl
      have h1 : DataW.trod enc Tryd.prog w base spare held n' 3 (([c0, c1, c2].drop 1).take (Tryd.prog.cellsOf 3)) = [y0, y1, y2][1]? := hf 1 _ rfl
      have h2 : DataW.trod enc Tryd.prog w base spare held n' 9 (([c0, c1, c2].drop 2).take (Tryd.prog.cellsOf 9)) = [y0, y1, y2][2]? := hf 2 _ rfl
      rw [cells3] at h0 h1
      rw [cells9] at h2
      obtain ⟨k, e0, _, _⟩ := DataW.trod_int Tryd.underlying3 (show DataW.trod enc Tryd.prog w base spare held n' 3 [c0] = some y0 from h0)
      obtain ⟨m, e1, _, hw⟩ := DataW.trod_int Tryd.underlying3 (show DataW.trod enc Tryd.prog w base spare held n' 3 [c1] = some y1 from h1)
      obtain ⟨s, e2, _, _⟩ := DataW.trod_string Tryd.underlying9 (show DataW.trod enc Tryd.prog w base spare held n' 9 [c2] = some y2 from h2)
      have hb : -9223372036854775808 ≤ m ∧ m ≤ 9223372036854775807 := by
        simp [Lit.wf, IntKind.min, IntKind.max, IntKind.signed, IntKind.bits] at hw
        omega
      simp only [List.cons.injEq, and_true] at e0 e1 e2
      exact ⟨k, m, s, by rw [e0, e1, e2], hb.1, hb.2⟩
theorem open_raw {fuel : Nat} {v : Value} {x : DataW H × List MemPlace} (h : DataW.trod enc Tryd.prog w base (fun _ => true) held fuel 33 [v] = some x) : ∃ R : List Raw, RawOk R ∧ SeesP w v R := by
  rcases open_slice Tryd.underlying33 h with ⟨hcs, _⟩ | ⟨a, len, cap, m, n, D, Pl, hcs, _, hl, _, hm, _, hi⟩
  · simp only [List.cons.injEq, and_true] at hcs
    exact ⟨[], (by intro r hr; simp at hr), .inl ⟨rfl, _, _, hcs⟩⟩
  · simp only [List.cons.injEq, and_true] at hcs
    by_cases h0 : len = 0
    · subst h0
      exact ⟨[], (by intro r hr; simp at hr), .inl ⟨rfl, _, _, hcs⟩⟩
    · have hmc : m = cap := by simpa using hm
      have hel : ∀ i : Nat, ∃ r : Raw, i < len → ((w.cell? (a.add (i * 3)) = some (.int .i64 r.1) ∧ w.cell? (a.add (i * 3 + 1)) = some (.int .i64 r.2.1) ∧ w.cell? (a.add (i * 3 + 2)) = some (.string r.2.2)) ∧ -9223372036854775808 ≤ r.2.1 ∧ r.2.1 ≤ 9223372036854775807) := by
        intro i
        by_cases hil : i < len
        · obtain ⟨cs', hc, ht⟩ := hi i (by omega)
          rw [cells43] at hc
          obtain ⟨k, z, s, rfl, b0, b1⟩ := open_elem ht
          obtain ⟨_, _, hat⟩ := World.cells?_some hc
          refine ⟨(k, z, s), fun _ => ⟨⟨?_, ?_, ?_⟩, b0, b1⟩⟩
          · have := hat 0 (by omega)
            rw [Go.Deep.add_add] at this
            exact this
          · have := hat 1 (by omega)
            rw [Go.Deep.add_add] at this
            exact this
          · have := hat 2 (by omega)
            rw [Go.Deep.add_add] at this
            exact this
        · exact ⟨(0, 0, ⟨#[]⟩), fun k => absurd k hil⟩
      obtain ⟨f, hf⟩ := Classical.axiomOfChoice hel
      obtain ⟨b, off, spot⟩ := a
      have hc0 := (hf 0 (by omega)).1.1
      have hspot : spot = none := by simpa [Addr.add] using World.cell?_spot hc0
      subst hspot
      have ad : ∀ j, (⟨b, off, none⟩ : Addr).add j = ⟨b, off + j, none⟩ := fun j => by simp [Addr.add]
      have hlen : ((List.range len).map f).length = len := by simp
      refine ⟨(List.range len).map f, ?_, .inr ⟨b, off, cap, by rw [hlen]; exact hcs, World.block_lt_of_cell? w _ hc0, ?_⟩⟩
      · intro r hr
        rw [List.mem_map] at hr
        obtain ⟨i, hi', rfl⟩ := hr
        exact (hf i (by simpa using hi')).2
      · intro k hk
        have hk' : k < len := by rw [hlen] at hk; exact hk
        obtain ⟨⟨e1, e2, e3⟩, _⟩ := hf k hk'
        rw [ad] at e1 e2 e3
        simp only [List.getElem_map, List.getElem_range]
        exact ⟨e1, e2, e3⟩
end
end Go.Proofs.YtponiboiijgllaaDoor
