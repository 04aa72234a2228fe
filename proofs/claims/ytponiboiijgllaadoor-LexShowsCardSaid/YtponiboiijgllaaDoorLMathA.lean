/- Plain mathematics for layer 3 (lex): going through a text's runes for something that is told of bytes below 128 alone is going through its bytes: blanks, the end of a text between quotes. No condition. -/
import Derived.Test.YtponiboiijgllaaDoorRMathH
import Derived.Shelf.GgClosure.StringsTrimFunc
namespace Go.Proofs.YtponiboiijgllaaDoor
open Go

theorem decL_high {c : UInt8} {t : List UInt8} (h : 128 ≤ c.toNat) : 128 ≤ (decL (c :: t)).1 ∧ 1 ≤ (decL (c :: t)).2 ∧ (decL (c :: t)).2 ≤ (c :: t).length ∧ ∀ x ∈ (c :: t).take (decL (c :: t)).2, 128 ≤ x.toNat := by
  by_cases hs : Stands (c :: t)
  · obtain ⟨v, w, e, h1, h4, hlen, _, _, hone, hmore⟩ := stands_dec hs
    rw [e]
    by_cases hw : w = 1
    · obtain ⟨a, t', hl, ha, hv⟩ := hone hw
      simp only [List.cons.injEq] at hl
      rw [hl.1] at h
      omega
    · exact ⟨(hmore hw).1, h1, hlen, (hmore hw).2⟩
  · rw [decL_bad c t hs]
    refine ⟨by show 128 ≤ 65533; omega, by show 1 ≤ 1; omega, by show 1 ≤ _; simp, ?_⟩
    intro x hx
    simp at hx
    rw [hx]
    exact h

/-- Does a byte part words? -/
def isBl (c : UInt8) : Bool := c.toNat == 32 || c.toNat == 9
def isBlZ (r : Nat) : Bool := decide (classZ r = 3)
theorem isBlZ_iff (r : Nat) : isBlZ r = true ↔ r = 32 ∨ r = 9 := by
  unfold isBlZ classZ
  rw [decide_eq_true_iff]
  repeat' split
  all_goals omega
theorem isBl_iff (c : UInt8) : isBl c = true ↔ c.toNat = 32 ∨ c.toNat = 9 := by simp [isBl]
theorem isBl_low (c : UInt8) : isBlZ c.toNat = isBl c := by rw [Bool.eq_iff_iff, isBlZ_iff, isBl_iff]
theorem isBlZ_high {r : Nat} (h : 128 ≤ r) : isBlZ r = false := by
  rw [Bool.eq_false_iff]
  intro k
  rw [isBlZ_iff] at k
  omega
theorem isBl_high {c : UInt8} (h : 128 ≤ c.toNat) : isBl c = false := by
  rw [Bool.eq_false_iff]
  intro k
  rw [isBl_iff] at k
  omega

/-- How many bytes stand ahead of the first blank (all, if there is none). -/
def nb (l : List UInt8) : Nat := l.findIdx isBl
/-- How many blanks stand ahead of the first byte that is none. -/
def sk (l : List UInt8) : Nat := l.findIdx fun c => !isBl c
theorem nb_cons (c : UInt8) (t : List UInt8) : nb (c :: t) = if isBl c then 0 else nb t + 1 := by
  unfold nb
  rw [List.findIdx_cons]
  cases isBl c <;> rfl
theorem sk_cons (c : UInt8) (t : List UInt8) : sk (c :: t) = if isBl c then sk t + 1 else 0 := by
  unfold sk
  rw [List.findIdx_cons]
  cases isBl c <;> rfl
theorem nb_le : ∀ l : List UInt8, nb l ≤ l.length
  | [] => by simp [nb]
  | c :: t => by
    have := nb_le t
    rw [nb_cons]
    split <;> simp
    omega
theorem sk_le : ∀ l : List UInt8, sk l ≤ l.length
  | [] => by simp [sk]
  | c :: t => by
    have := sk_le t
    rw [sk_cons]
    split <;> simp
    omega
theorem nb_run : ∀ (a b : List UInt8), (∀ x ∈ a, isBl x = false) → nb (a ++ b) = a.length + nb b
  | [], b, _ => by simp
  | c :: a, b, h => by
    rw [List.cons_append, nb_cons, h c (by simp), nb_run a b (fun x hx => h x (by simp [hx]))]
    simp
    omega
/-- What stands behind the first blanks begins with no blank. -/
theorem sk_drop : ∀ l : List UInt8, l.drop (sk l) = [] ∨ ∃ c t, l.drop (sk l) = c :: t ∧ isBl c = false
  | [] => .inl rfl
  | c :: t => by
    rw [sk_cons]
    by_cases h : isBl c = true
    · rw [if_pos h, List.drop_succ_cons]
      exact sk_drop t
    · rw [if_neg h]
      exact .inr ⟨c, t, rfl, by simpa using h⟩
theorem nb_drop : ∀ l : List UInt8, l.drop (nb l) = [] ∨ ∃ c t, l.drop (nb l) = c :: t ∧ isBl c = true
  | [] => .inl rfl
  | c :: t => by
    rw [nb_cons]
    by_cases h : isBl c = true
    · rw [if_pos h]
      exact .inr ⟨c, t, rfl, h⟩
    · rw [if_neg h, List.drop_succ_cons]
      exact nb_drop t
theorem nb_zero {l : List UInt8} (h : nb l = 0) : l = [] ∨ ∃ c t, l = c :: t ∧ isBl c = true := by
  have := nb_drop l
  rw [h, List.drop_zero] at this
  exact this

theorem drop_at {s : ByteArray} {pos : Nat} (h : pos < s.size) : s.data.toList.drop pos = (s[pos]'h) :: s.data.toList.drop (pos + 1) := drop_get h
theorem decode_low {s : ByteArray} {pos : Nat} (h : pos < s.size) (hc : (s[pos]'h).toNat < 128) : Utf8.decode s pos = ((s[pos]'h).toNat, 1) := by
  rw [decode_decL, drop_at h, decL_one hc]
theorem decode_high {s : ByteArray} {pos : Nat} (h : pos < s.size) (hc : 128 ≤ (s[pos]'h).toNat) : 128 ≤ (Utf8.decode s pos).1 ∧ 1 ≤ (Utf8.decode s pos).2 ∧ pos + (Utf8.decode s pos).2 ≤ s.size ∧ ∀ x ∈ (s.data.toList.drop pos).take (Utf8.decode s pos).2, 128 ≤ x.toNat := by
  have := decL_high (t := s.data.toList.drop (pos + 1)) hc
  rw [← drop_at h, ← decode_decL] at this
  refine ⟨this.1, this.2.1, ?_, this.2.2.2⟩
  have h2 := this.2.2.1
  rw [List.length_drop, len_data] at h2
  omega
theorem drop_split {s : ByteArray} (pos w : Nat) : s.data.toList.drop pos = (s.data.toList.drop pos).take w ++ s.data.toList.drop (pos + w) := by
  rw [← List.drop_drop, List.take_append_drop]

theorem idx_true (s : ByteArray) : ∀ (f pos : Nat), s.size ≤ pos + f → pos ≤ s.size →
    Lib.idxFuncFrom isBlZ true s f pos = if nb (s.data.toList.drop pos) < (s.data.toList.drop pos).length then ((pos + nb (s.data.toList.drop pos) : Nat) : Int) else -1
  | 0, pos, hf, hp => by
    rw [List.drop_eq_nil_of_le (by rw [len_data]; omega)]
    rfl
  | f + 1, pos, hf, hp => by
    unfold Lib.idxFuncFrom
    by_cases h : pos < s.size
    · rw [if_pos h]
      by_cases hc : (s[pos]'h).toNat < 128
      · rw [decode_low h hc, drop_at h, nb_cons, isBl_low]
        by_cases hb : isBl (s[pos]'h) = true
        · rw [if_pos hb, if_pos hb]
          simp
        · rw [if_neg hb, if_neg hb, idx_true s f (pos + 1) (by omega) (by omega)]
          simp only [List.length_cons]
          split
          · rw [if_pos (by omega)]
            omega
          · rw [if_neg (by omega)]
      · obtain ⟨h1, h2, h3, h4⟩ := decode_high h (by omega)
        rw [if_neg (by rw [isBlZ_high h1]; simp), idx_true s f _ (by omega) h3]
        have e := drop_split (s := s) pos (Utf8.decode s pos).2
        have hn : nb (s.data.toList.drop pos) = (Utf8.decode s pos).2 + nb (s.data.toList.drop (pos + (Utf8.decode s pos).2)) := by
          conv => lhs; rw [e]
          rw [nb_run _ _ (fun x hx => isBl_high (h4 x hx)), List.length_take, List.length_drop, len_data]
          omega
        rw [hn]
        simp only [List.length_drop, len_data]
        split
        · rw [if_pos (by omega)]
          omega
        · rw [if_neg (by omega)]
    · rw [if_neg h, List.drop_eq_nil_of_le (by rw [len_data]; omega)]
      rfl
theorem idx_false (s : ByteArray) : ∀ (f pos : Nat), s.size ≤ pos + f → pos ≤ s.size →
    Lib.idxFuncFrom isBlZ false s f pos = if sk (s.data.toList.drop pos) < (s.data.toList.drop pos).length then ((pos + sk (s.data.toList.drop pos) : Nat) : Int) else -1
  | 0, pos, hf, hp => by
    rw [List.drop_eq_nil_of_le (by rw [len_data]; omega)]
    rfl
  | f + 1, pos, hf, hp => by
    unfold Lib.idxFuncFrom
    by_cases h : pos < s.size
    · rw [if_pos h]
      by_cases hc : (s[pos]'h).toNat < 128
      · rw [decode_low h hc, drop_at h, sk_cons, isBl_low]
        by_cases hb : isBl (s[pos]'h) = true
        · rw [if_pos hb, if_neg (by rw [hb]; simp), idx_false s f (pos + 1) (by omega) (by omega)]
          simp only [List.length_cons]
          split
          · rw [if_pos (by omega)]
            omega
          · rw [if_neg (by omega)]
        · rw [if_neg hb, if_pos (by simpa using hb)]
          simp
      · obtain ⟨h1, h2, h3, h4⟩ := decode_high h (by omega)
        have hb : isBl (s[pos]'h) = false := isBl_high (by omega)
        rw [if_pos (isBlZ_high h1), drop_at h, sk_cons, hb]
        simp
    · rw [if_neg h, List.drop_eq_nil_of_le (by rw [len_data]; omega)]
      rfl
/-- What strings.IndexFunc answers of blanks. -/
theorem index_blank (s : ByteArray) : Lib.idxFunc isBlZ true s = if nb s.data.toList < s.size then (nb s.data.toList : Int) else -1 := by
  have := idx_true s s.size 0 (by omega) (by omega)
  rw [List.drop_zero, len_data] at this
  rw [Lib.idxFunc, this]
  simp
/-- What strings.TrimLeftFunc answers of blanks. -/
theorem trim_blank (s : ByteArray) : (Lib.trimLeftF isBlZ s).data.toList = s.data.toList.drop (sk s.data.toList) := by
  have := idx_false s s.size 0 (by omega) (by omega)
  rw [List.drop_zero, len_data] at this
  have hl := sk_le s.data.toList
  rw [len_data] at hl
  unfold Lib.trimLeftF
  rw [Lib.idxFunc, this]
  by_cases h : sk s.data.toList < s.size
  · rw [if_pos h, if_neg (by omega)]
    simp only [ByteArray.data_extract, Array.toList_extract, List.extract_eq_take_drop, Int.toNat_natCast, Nat.zero_add]
    rw [List.take_of_length_le (by rw [List.length_drop, len_data]; omega)]
  · rw [if_neg h, if_pos rfl, List.drop_eq_nil_of_le (by rw [len_data]; omega)]

/-- Up to the sign " that ends a text between quotes (h: a \ stands ahead); none: there is no end. -/
def qlen : Bool → List UInt8 → Option Nat
  | _, [] => none
  | true, _ :: t => (qlen false t).map (· + 1)
  | false, c :: t => if c.toNat = 34 then some 1 else if c.toNat = 92 then (qlen true t).map (· + 1) else (qlen false t).map (· + 1)
theorem qlen_true (c : UInt8) (t : List UInt8) : qlen true (c :: t) = (qlen false t).map (· + 1) := rfl
theorem qlen_false (c : UInt8) (t : List UInt8) : qlen false (c :: t) = if c.toNat = 34 then some 1 else if c.toNat = 92 then (qlen true t).map (· + 1) else (qlen false t).map (· + 1) := rfl
theorem qlen_nil (h : Bool) : qlen h [] = none := by cases h <;> rfl
theorem qlen_run : ∀ (a b : List UInt8), (∀ x ∈ a, x.toNat ≠ 34 ∧ x.toNat ≠ 92) → qlen false (a ++ b) = (qlen false b).map (· + a.length)
  | [], b, _ => by simp
  | c :: a, b, h => by
    rw [List.cons_append, qlen_false, if_neg (h c (by simp)).1, if_neg (h c (by simp)).2, qlen_run a b (fun x hx => h x (by simp [hx])), Option.map_map]
    congr 1
theorem qlen_high {h : Bool} {a b : List UInt8} (ha : a ≠ []) (hx : ∀ x ∈ a, 128 ≤ x.toNat) : qlen h (a ++ b) = (qlen false b).map (· + a.length) := by
  cases h
  · exact qlen_run a b fun x k => by have := hx x k; omega
  · rcases a with _ | ⟨c, a⟩
    · exact absurd rfl ha
    · rw [List.cons_append, qlen_true, qlen_run a b (fun x k => by have := hx x (by simp [k]); omega), Option.map_map]
      congr 1
theorem qlen_le : ∀ (h : Bool) (l : List UInt8) (n : Nat), qlen h l = some n → 1 ≤ n ∧ n ≤ l.length
  | _, [], n, e => by simp [qlen_nil] at e
  | true, c :: t, n, e => by
    rw [qlen_true] at e
    obtain ⟨m, hm, rfl⟩ := Option.map_eq_some_iff.1 e
    have := qlen_le false t m hm
    simp
    omega
  | false, c :: t, n, e => by
    rw [qlen_false] at e
    split at e
    · simp at e
      subst e
      simp
    · split at e
      · obtain ⟨m, hm, rfl⟩ := Option.map_eq_some_iff.1 e
        have := qlen_le true t m hm
        simp
        omega
      · obtain ⟨m, hm, rfl⟩ := Option.map_eq_some_iff.1 e
        have := qlen_le false t m hm
        simp
        omega
/-- How many bytes the text has that begins here between quotes; 0: none begins; all: it has no end. -/
def tlen (l : List UInt8) : Nat := match l with
  | [] => 0
  | c :: t => if c.toNat = 34 then (match qlen false t with | some n => n + 1 | none => (c :: t).length) else 0
theorem tlen_le (l : List UInt8) : tlen l ≤ l.length := by
  rcases l with _ | ⟨c, t⟩
  · simp [tlen]
  · simp only [tlen]
    split
    · cases h : qlen false t with
      | none => simp
      | some n =>
        have := qlen_le false t n h
        simp
        omega
    · simp
/-- What is answered behind a place. -/
def endZ (h : Bool) (l : List UInt8) (pos size : Nat) : Nat := match qlen h l with | some n => pos + n | none => size
theorem endZ_end (h : Bool) (pos size : Nat) : endZ h [] pos size = size := by simp [endZ, qlen_nil]
theorem endZ_map {h : Bool} {l m : List UInt8} {k : Nat} (e : qlen h l = (qlen false m).map (· + k)) (pos size : Nat) : endZ h l pos size = endZ false m (pos + k) size := by
  unfold endZ
  rw [e]
  cases qlen false m <;> simp
  omega
theorem endZ_held (c : UInt8) (t : List UInt8) (pos size : Nat) : endZ true (c :: t) pos size = endZ false t (pos + 1) size := endZ_map (qlen_true c t) pos size
theorem endZ_quote {c : UInt8} (t : List UInt8) (hc : c.toNat = 34) (pos size : Nat) : endZ false (c :: t) pos size = pos + 1 := by simp [endZ, qlen_false, hc]
theorem endZ_back {c : UInt8} (t : List UInt8) (hc : c.toNat = 92) (pos size : Nat) : endZ false (c :: t) pos size = endZ true t (pos + 1) size := by
  unfold endZ
  rw [qlen_false, if_neg (by omega), if_pos hc]
  cases qlen true t <;> simp
  omega
theorem endZ_other {c : UInt8} (t : List UInt8) (h34 : c.toNat ≠ 34) (h92 : c.toNat ≠ 92) (pos size : Nat) : endZ false (c :: t) pos size = endZ false t (pos + 1) size :=
  endZ_map (by rw [qlen_false, if_neg h34, if_neg h92]) pos size
theorem endZ_high {s : ByteArray} {h : Bool} {pos : Nat} (hp : pos < s.size) (hc : 128 ≤ (s[pos]'hp).toNat) : endZ h (s.data.toList.drop pos) pos s.size = endZ false (s.data.toList.drop (pos + (Utf8.decode s pos).2)) (pos + (Utf8.decode s pos).2) s.size := by
  obtain ⟨h1, h2, h3, h4⟩ := decode_high hp hc
  refine endZ_map ?_ pos s.size
  have hl : ((s.data.toList.drop pos).take (Utf8.decode s pos).2).length = (Utf8.decode s pos).2 := by
    rw [List.length_take, List.length_drop, len_data]
    omega
  have e := drop_split (s := s) pos (Utf8.decode s pos).2
  conv => lhs; rw [e]
  rw [qlen_high (fun k => by rw [k] at hl; simp at hl; omega) h4, hl]
theorem tlen_endZ {c : UInt8} {t : List UInt8} (hc : c.toNat = 34) : tlen (c :: t) = endZ false t 1 (c :: t).length := by
  simp only [tlen, endZ, if_pos hc]
  cases qlen false t
  · rfl
  · simp only
    omega
end Go.Proofs.YtponiboiijgllaaDoor
