/- Plain mathematics for layer 1 (runes): the reference's Width is the width of the rune that stands at a place; 0: none does. No condition. -/
import Derived.Test.YtponiboiijgllaaDoorRMathB
namespace Go.Proofs.YtponiboiijgllaaDoor
open Go

/-- The width of the rune that stands at the beginning; 0: none does. -/
def widL (l : List UInt8) : Nat := if okB l then (decL l).2 else 0
/-- Does a text begin with a byte from one to another? -/
def inL (l : List UInt8) (lo hi : Int) : Bool := match l with | [] => false | c :: _ => decide (lo ≤ c.toNat ∧ (c.toNat : Int) ≤ hi)
def widB (s : List UInt8) (i : Nat) : Nat :=
  if inL (s.drop i) 0 127 then 1
  else if inL (s.drop i) 194 223 && inL (s.drop (i + 1)) 128 191 then 2
  else if (inL (s.drop i) 224 224 && inL (s.drop (i + 1)) 160 191 || inL (s.drop i) 225 236 && inL (s.drop (i + 1)) 128 191 || inL (s.drop i) 237 237 && inL (s.drop (i + 1)) 128 159 || inL (s.drop i) 238 239 && inL (s.drop (i + 1)) 128 191) && inL (s.drop (i + 2)) 128 191 then 3
  else if (inL (s.drop i) 240 240 && inL (s.drop (i + 1)) 144 191 || inL (s.drop i) 241 243 && inL (s.drop (i + 1)) 128 191 || inL (s.drop i) 244 244 && inL (s.drop (i + 1)) 128 143) && inL (s.drop (i + 2)) 128 191 && inL (s.drop (i + 3)) 128 191 then 4
  else 0

theorem widL_of {l : List UInt8} (h : Stands l) : widL l = (decL l).2 := by rw [widL, if_pos ((okB_iff (stands_ne h)).2 h)]
theorem widL_not {l : List UInt8} (hl : l ≠ []) (h : ¬ Stands l) : widL l = 0 := by
  rw [widL, if_neg (by rw [okB_iff hl]; exact h)]

theorem inL_one {l : List UInt8} {lo hi : Int} : inL l lo hi = true ↔ ∃ a t, l = a :: t ∧ lo ≤ (a.toNat : Int) ∧ (a.toNat : Int) ≤ hi := by
  rcases l with _ | ⟨a, t⟩
  · simp [inL]
  · simp [inL]

/-- By the first bytes. -/
theorem stands_cases {l : List UInt8} (h : Stands l) : (∃ a t, l = a :: t ∧ a.toNat < 128) ∨ (∃ a b t, l = a :: b :: t ∧ two a b) ∨ (∃ a b c t, l = a :: b :: c :: t ∧ three a b c) ∨ (∃ a b c d t, l = a :: b :: c :: d :: t ∧ four a b c d) := by
  rcases h with ⟨a, t, h⟩ | ⟨a, b, t, h⟩ | ⟨a, b, c, t, h⟩ | ⟨a, b, c, d, t, h⟩
  · exact .inl ⟨_, _, rfl, h⟩
  · exact .inr (.inl ⟨_, _, _, rfl, h⟩)
  · exact .inr (.inr (.inl ⟨_, _, _, _, rfl, h⟩))
  · exact .inr (.inr (.inr ⟨_, _, _, _, _, rfl, h⟩))

theorem inL_cons (a : UInt8) (t : List UInt8) (lo hi : Int) : inL (a :: t) lo hi = decide (lo ≤ (a.toNat : Int) ∧ (a.toNat : Int) ≤ hi) := rfl
theorem widL_eq (s : List UInt8) (i : Nat) (hl : s.drop i ≠ []) : widL (s.drop i) = widB s i := by
  have e1 : s.drop (i + 1) = (s.drop i).drop 1 := by rw [List.drop_drop]
  have e2 : s.drop (i + 2) = (s.drop i).drop 2 := by rw [List.drop_drop]
  have e3 : s.drop (i + 3) = (s.drop i).drop 3 := by rw [List.drop_drop]
  unfold widB
  rw [e1, e2, e3]
  generalize s.drop i = l at *
  clear e1 e2 e3
  by_cases h : Stands l
  · rw [widL_of h]
    rcases stands_cases h with ⟨a, t, rfl, h1⟩ | ⟨a, b, t, rfl, h1⟩ | ⟨a, b, c, t, rfl, h1⟩ | ⟨a, b, c, d, t, rfl, h1⟩
    · rw [decL_one h1, if_pos (by rw [inL_cons]; simp; omega)]
    · rw [decL_two h1]
      unfold two cont at h1
      rw [if_neg (by rw [inL_cons]; simp; omega), if_pos (by simp [inL_cons]; omega)]
    · rw [decL_three h1]
      unfold three cont at h1
      rw [if_neg (by rw [inL_cons]; simp; omega), if_neg (by simp [inL_cons]; omega), if_pos (by simp [inL_cons]; omega)]
    · rw [decL_four h1]
      unfold four cont at h1
      rw [if_neg (by rw [inL_cons]; simp; omega), if_neg (by simp [inL_cons]; omega), if_neg (by simp [inL_cons]; omega), if_pos (by simp [inL_cons]; omega)]
  · rw [widL_not hl h]
    rcases l with _ | ⟨a, t⟩
    · exact absurd rfl hl
    have h1 : ¬ a.toNat < 128 := fun k => h (.one a t k)
    rw [if_neg (by rw [inL_cons]; simp; omega)]
    rcases t with _ | ⟨b, t⟩
    · simp [inL]
    have h2 : ¬ two a b := fun k => h (.two a b t k)
    unfold two cont at h2
    rw [if_neg (by simp [inL_cons]; omega)]
    rcases t with _ | ⟨c, t⟩
    · simp [inL]
    have h3 : ¬ three a b c := fun k => h (.three a b c t k)
    unfold three cont at h3
    rw [if_neg (by simp [inL_cons]; omega)]
    rcases t with _ | ⟨d, t⟩
    · simp [inL]
    have h4 : ¬ four a b c d := fun k => h (.four a b c d t k)
    unfold four cont at h4
    rw [if_neg (by simp [inL_cons]; omega)]

theorem hexd_lt {n : Nat} (h : n < 10) : ((hexd n).toNat : Int) = 48 + n := by
  unfold hexd
  rw [if_pos h]
  simp
  omega
theorem hexd_ge {n : Nat} (h : 10 ≤ n) (h2 : n < 16) : ((hexd n).toNat : Int) = 87 + n := by
  unfold hexd
  rw [if_neg (by omega)]
  simp
  omega
theorem sgAt_head {s : ByteArray} {pos : Nat} (h : pos < s.size) : (sgAt s pos).bytes.headD 0 = s[pos]'h := by
  have hw := width_pos _ (drop_ne h)
  unfold sgAt sg
  rw [List.drop_eq_getElem_cons (by simpa using h)] at *
  obtain ⟨n, hn⟩ := Nat.exists_eq_add_of_le' hw.1
  simp only [hn, List.take_succ_cons, List.headD_cons]
  rfl
theorem quoteSeg_hex {s : ByteArray} {pos : Nat} (h : pos < s.size) (k : (okB (s.data.toList.drop pos) && plainB ((Utf8.decode s pos).1 : Nat)) = false) :
    quoteSeg (sgAt s pos) = [92, 120, hexd ((s[pos]'h).toNat / 16), hexd ((s[pos]'h).toNat % 16)] := by
  unfold quoteSeg
  rw [sgAt_ok, sgAt_r, k, sgAt_head h]
  simp
theorem quoteSeg_mark {s : ByteArray} {pos : Nat} (k : okB (s.data.toList.drop pos) = true) (k2 : plainB ((Utf8.decode s pos).1 : Nat) = true) (k3 : classZ ((Utf8.decode s pos).1 : Nat) = 4) :
    quoteSeg (sgAt s pos) = [92] ++ Lib.encodeRune ((Utf8.decode s pos).1 : Nat) := by
  unfold quoteSeg
  rw [sgAt_ok, sgAt_r, k, k2]
  simp [k3]
theorem quoteSeg_rune {s : ByteArray} {pos : Nat} (k : okB (s.data.toList.drop pos) = true) (k2 : plainB ((Utf8.decode s pos).1 : Nat) = true) (k3 : classZ ((Utf8.decode s pos).1 : Nat) ≠ 4) :
    quoteSeg (sgAt s pos) = Lib.encodeRune ((Utf8.decode s pos).1 : Nat) := by
  unfold quoteSeg
  rw [sgAt_ok, sgAt_r, k, k2]
  simp [k3]
/-- One round more. -/
theorem quote_step {s : ByteArray} {pos : Nat} {acc X : List UInt8} (hp : pos < s.size) (H : acc ++ (segsAt s pos).flatMap quoteSeg ++ [34] = quoteL s.data.toList) (hX : quoteSeg (sgAt s pos) = X) :
    (acc ++ X) ++ (segsAt s (pos + (Utf8.decode s pos).2)).flatMap quoteSeg ++ [34] = quoteL s.data.toList := by
  rw [segsAt_step hp] at H
  rw [← H, ← hX]
  simp

/-- By the first byte: what stands there. -/
theorem ok_byte {s : ByteArray} {pos : Nat} (h : pos < s.size) (k : okB (s.data.toList.drop pos) = true) :
    ((Utf8.decode s pos).2 = 1 ∧ (Utf8.decode s pos).1 = (s[pos]'h).toNat ∧ (s[pos]'h).toNat < 128) ∨ ((Utf8.decode s pos).2 ≠ 1 ∧ 128 ≤ (Utf8.decode s pos).1 ∧ 128 ≤ (s[pos]'h).toNat) := by
  have hs := (okB_iff (drop_ne h)).1 k
  obtain ⟨v, w, e, h1, h4, hlen, hv, henc, hone, hmore⟩ := stands_dec hs
  rw [decode_decL, e]
  by_cases hw : w = 1
  · obtain ⟨a, t, hl, ha, hlt⟩ := hone hw
    rw [List.drop_eq_getElem_cons (by simpa using h)] at hl
    simp at hl
    refine .inl ⟨hw, ?_, ?_⟩
    · rw [← ha, ← hl.1]; rfl
    · show (s.data[pos]).toNat < 128
      rw [hl.1]; omega
  · obtain ⟨h128, hall⟩ := hmore hw
    refine .inr ⟨hw, h128, ?_⟩
    have : (s.data.toList.drop pos).take w = s.data.toList[pos]'(by simpa using h) :: ((s.data.toList.drop (pos + 1)).take (w - 1)) := by
      rw [List.drop_eq_getElem_cons (by simpa using h)]
      obtain ⟨n, rfl⟩ := Nat.exists_eq_add_of_le' h1
      simp
    have := hall (s.data.toList[pos]'(by simpa using h)) (by rw [this]; simp)
    exact this
theorem bad_width {s : ByteArray} {pos : Nat} (h : pos < s.size) (k : okB (s.data.toList.drop pos) = false) : (Utf8.decode s pos).2 = 1 := by
  have hs : ¬ Stands (s.data.toList.drop pos) := fun x => by rw [(okB_iff (drop_ne h)).2 x] at k; cases k
  rw [decode_decL, decL_not (drop_ne h) hs]
theorem ok_bytes {s : ByteArray} {pos : Nat} (h : pos < s.size) (k : okB (s.data.toList.drop pos) = true) :
    Lib.encodeRune ((Utf8.decode s pos).1 : Nat) = (s.data.toList.drop pos).take (Utf8.decode s pos).2 := by
  have hs := (okB_iff (drop_ne h)).1 k
  obtain ⟨v, w, e, h1, h4, hlen, hv, henc, hone, hmore⟩ := stands_dec hs
  rw [decode_decL, e]
  exact henc
theorem class_mark {r : Int} : classZ r = 4 ↔ r = 34 ∨ r = 92 := by
  unfold classZ
  repeat' split
  all_goals omega

/-- The reference's three ways. -/
theorem ref_hex {s : ByteArray} {pos : Nat} (h : pos < s.size) (k : okB (s.data.toList.drop pos) = false ∨ (s[pos]'h).toNat < 32 ∨ (s[pos]'h).toNat = 127) :
    quoteSeg (sgAt s pos) = [92, 120, hexd ((s[pos]'h).toNat / 16), hexd ((s[pos]'h).toNat % 16)] ∧ (Utf8.decode s pos).2 = 1 := by
  by_cases hok : okB (s.data.toList.drop pos) = true
  · rcases ok_byte h hok with ⟨h1, h2, h3⟩ | ⟨h1, h2, h3⟩
    · refine ⟨quoteSeg_hex h ?_, h1⟩
      rw [hok, h2]
      rw [hok] at k
      simp at k
      simp [plainB]
      omega
    · rw [hok] at k
      simp at k
      omega
  · have hok : okB (s.data.toList.drop pos) = false := by simpa using hok
    exact ⟨quoteSeg_hex h (by rw [hok]; rfl), bad_width h hok⟩
theorem ref_mark {s : ByteArray} {pos : Nat} (h : pos < s.size) (hok : okB (s.data.toList.drop pos) = true) (k : (s[pos]'h).toNat = 34 ∨ (s[pos]'h).toNat = 92) :
    quoteSeg (sgAt s pos) = [92] ++ (s.data.toList.drop pos).take (Utf8.decode s pos).2 := by
  rw [← ok_bytes h hok]
  rcases ok_byte h hok with ⟨h1, h2, h3⟩ | ⟨h1, h2, h3⟩
  · exact quoteSeg_mark hok (by rw [h2]; simp [plainB]; omega) (by rw [h2]; exact class_mark.2 (by omega))
  · omega
theorem ref_rune {s : ByteArray} {pos : Nat} (h : pos < s.size) (hok : okB (s.data.toList.drop pos) = true) (h32 : 32 ≤ (s[pos]'h).toNat) (h127 : (s[pos]'h).toNat ≠ 127) (k : (s[pos]'h).toNat ≠ 34 ∧ (s[pos]'h).toNat ≠ 92) :
    quoteSeg (sgAt s pos) = (s.data.toList.drop pos).take (Utf8.decode s pos).2 := by
  rw [← ok_bytes h hok]
  rcases ok_byte h hok with ⟨h1, h2, h3⟩ | ⟨h1, h2, h3⟩
  · exact quoteSeg_rune hok (by rw [h2]; simp [plainB]; omega) (by rw [h2, Ne, class_mark]; omega)
  · exact quoteSeg_rune hok (by simp [plainB]; omega) (by rw [Ne, class_mark]; omega)
theorem widL_ok {s : ByteArray} {pos : Nat} (hok : okB (s.data.toList.drop pos) = true) : widL (s.data.toList.drop pos) = (Utf8.decode s pos).2 := by
  rw [widL, if_pos hok, decode_decL]
theorem widL_bad {s : ByteArray} {pos : Nat} (hok : okB (s.data.toList.drop pos) = false) : widL (s.data.toList.drop pos) = 0 := by
  rw [widL, if_neg (by simp [hok])]
end Go.Proofs.YtponiboiijgllaaDoor
