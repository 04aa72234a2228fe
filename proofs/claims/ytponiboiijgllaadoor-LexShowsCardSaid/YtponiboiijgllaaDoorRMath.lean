/- Plain mathematics for layer 1 (runes): the model's decoding of a text's bytes, told of lists of bytes: its five cases; what stands at the beginning of a text does not hang on what stands behind it; the chunks of a text. No condition. -/
import Derived.Lib.DecodeNEq
import Derived.Lib.RuneBytes
namespace Go.Proofs.YtponiboiijgllaaDoor
open Go

def byt (l : List UInt8) (k : Nat) : Nat := (l.getD k 0).toNat
def decL (l : List UInt8) : Nat × Nat := Lib.decodeN l.length (byt l 0) (byt l 1) (byt l 2) (byt l 3)

theorem get_drop (s : ByteArray) (i k : Nat) : (s.get! (i + k)).toNat = byt (s.data.toList.drop i) k := by
  simp only [byt, ByteArray.get!, List.getD_eq_getElem?_getD, List.getElem?_drop]
  congr 1
  rw [getElem!_def]
  split <;> simp_all
  rfl

theorem decode_decL (s : ByteArray) (i : Nat) : Utf8.decode s i = decL (s.data.toList.drop i) := by
  rw [Lib.decode_at]
  simp only [decL, ← get_drop, List.length_drop]
  rfl

def cont (b : UInt8) : Prop := 128 ≤ b.toNat ∧ b.toNat ≤ 191
instance (b : UInt8) : Decidable (cont b) := inferInstanceAs (Decidable (_ ∧ _))

/-- Two bytes: a rune's. -/
def two (a b : UInt8) : Prop := 194 ≤ a.toNat ∧ a.toNat ≤ 223 ∧ cont b
def three (a b c : UInt8) : Prop := ((a.toNat = 224 ∧ 160 ≤ b.toNat ∧ b.toNat ≤ 191) ∨ (225 ≤ a.toNat ∧ a.toNat ≤ 236 ∧ cont b) ∨ (a.toNat = 237 ∧ 128 ≤ b.toNat ∧ b.toNat ≤ 159) ∨ (238 ≤ a.toNat ∧ a.toNat ≤ 239 ∧ cont b)) ∧ cont c
def four (a b c d : UInt8) : Prop := ((a.toNat = 240 ∧ 144 ≤ b.toNat ∧ b.toNat ≤ 191) ∨ (241 ≤ a.toNat ∧ a.toNat ≤ 243 ∧ cont b) ∨ (a.toNat = 244 ∧ 128 ≤ b.toNat ∧ b.toNat ≤ 143)) ∧ cont c ∧ cont d

theorem u8_lt (b : UInt8) : b.toNat < 256 := b.toNat_lt

theorem decL_one {a : UInt8} (h : a.toNat < 128) (t : List UInt8) : decL (a :: t) = (a.toNat, 1) := by
  simp [decL, Lib.decodeN, byt, h]
theorem decL_two {a b : UInt8} (h : two a b) (t : List UInt8) : decL (a :: b :: t) = (a.toNat % 32 * 64 + b.toNat % 64, 2) := by
  unfold two cont at h
  have e : byt (a :: b :: t) 0 = a.toNat ∧ byt (a :: b :: t) 1 = b.toNat := ⟨rfl, rfl⟩
  simp only [decL, Lib.decodeN, e.1, e.2, List.length_cons]
  rw [if_neg (by omega), if_pos (by omega), if_pos (by omega)]
theorem decL_three {a b c : UInt8} (h : three a b c) (t : List UInt8) : decL (a :: b :: c :: t) = (a.toNat % 16 * 4096 + b.toNat % 64 * 64 + c.toNat % 64, 3) := by
  unfold three cont at h
  have e : byt (a :: b :: c :: t) 0 = a.toNat ∧ byt (a :: b :: c :: t) 1 = b.toNat ∧ byt (a :: b :: c :: t) 2 = c.toNat := ⟨rfl, rfl, rfl⟩
  simp only [decL, Lib.decodeN, e.1, e.2.1, e.2.2, List.length_cons]
  rw [if_neg (by omega), if_neg (by omega), if_pos (by omega), if_pos (by omega)]
theorem decL_four {a b c d : UInt8} (h : four a b c d) (t : List UInt8) : decL (a :: b :: c :: d :: t) = (a.toNat % 8 * 262144 + b.toNat % 64 * 4096 + c.toNat % 64 * 64 + d.toNat % 64, 4) := by
  unfold four cont at h
  have e : byt (a :: b :: c :: d :: t) 0 = a.toNat ∧ byt (a :: b :: c :: d :: t) 1 = b.toNat ∧ byt (a :: b :: c :: d :: t) 2 = c.toNat ∧ byt (a :: b :: c :: d :: t) 3 = d.toNat := ⟨rfl, rfl, rfl, rfl⟩
  simp only [decL, Lib.decodeN, e.1, e.2.1, e.2.2.1, e.2.2.2, List.length_cons]
  rw [if_neg (by omega), if_neg (by omega), if_neg (by omega), if_pos (by omega), if_pos (by omega)]

/-- A rune stands at the beginning of l. -/
inductive Stands : List UInt8 → Prop
  | one (a : UInt8) (t : List UInt8) : a.toNat < 128 → Stands (a :: t)
  | two (a b : UInt8) (t : List UInt8) : two a b → Stands (a :: b :: t)
  | three (a b c : UInt8) (t : List UInt8) : three a b c → Stands (a :: b :: c :: t)
  | four (a b c d : UInt8) (t : List UInt8) : four a b c d → Stands (a :: b :: c :: d :: t)

set_option maxRecDepth 100000 in
set_option maxHeartbeats 4000000 in
theorem decL_bad (a : UInt8) (t : List UInt8) (h : ¬ Stands (a :: t)) : decL (a :: t) = (65533, 1) := by
  have ha := u8_lt a
  have h1 : ¬ a.toNat < 128 := fun k => h (.one a t k)
  have e0 : byt (a :: t) 0 = a.toNat := rfl
  rcases t with _ | ⟨b, t⟩
  · simp only [decL, Lib.decodeN, e0, List.length_cons, List.length_nil]
    rw [if_neg (by omega), if_neg (by omega), if_neg (by omega), if_neg (by omega)]
  have hb := u8_lt b
  have e1 : byt (a :: b :: t) 1 = b.toNat := rfl
  have h2 : ¬ (194 ≤ a.toNat ∧ a.toNat ≤ 223 ∧ 128 ≤ b.toNat ∧ b.toNat ≤ 191) := fun k => h (.two a b t ⟨k.1, k.2.1, k.2.2⟩)
  rcases t with _ | ⟨c, t⟩
  · simp only [decL, Lib.decodeN, e0, e1, List.length_cons, List.length_nil]
    repeat' split
    all_goals first | rfl | (exfalso; omega)
  have hc := u8_lt c
  have e2 : byt (a :: b :: c :: t) 2 = c.toNat := rfl
  have h3 : ¬ three a b c := fun k => h (.three a b c t k)
  unfold three cont at h3
  rcases t with _ | ⟨d, t⟩
  · simp only [decL, Lib.decodeN, e0, e1, e2, List.length_cons, List.length_nil]
    repeat' split
    all_goals first | rfl | (exfalso; omega)
  have hd := u8_lt d
  have e3 : byt (a :: b :: c :: d :: t) 3 = d.toNat := rfl
  have h4 : ¬ four a b c d := fun k => h (.four a b c d t k)
  unfold four cont at h4
  simp only [decL, Lib.decodeN, e0, e1, e2, e3, List.length_cons]
  repeat' split
  all_goals first | rfl | (exfalso; omega)

/-- How many bytes a rune's form has that stands at the beginning. -/
theorem stands_dec {l : List UInt8} (h : Stands l) : ∃ v w : Nat, decL l = (v, w) ∧ 1 ≤ w ∧ w ≤ 4 ∧ w ≤ l.length ∧ (v < 55296 ∨ (57344 ≤ v ∧ v ≤ 1114111)) ∧ Lib.encodeRune v = l.take w ∧ (w = 1 → ∃ a t, l = a :: t ∧ a.toNat = v ∧ v < 128) ∧ (w ≠ 1 → 128 ≤ v ∧ ∀ x ∈ l.take w, 128 ≤ x.toNat) := by
  rcases h with ⟨a, t, h⟩ | ⟨a, b, t, h⟩ | ⟨a, b, c, t, h⟩ | ⟨a, b, c, d, t, h⟩
  · refine ⟨_, _, decL_one h t, by omega, by omega, by simp, by omega, ?_, fun _ => ⟨a, t, rfl, rfl, h⟩, fun k => absurd rfl k⟩
    rw [Lib.encodeRune, Lib.encodeRuneZ_one (by omega) (by omega)]
    simp
  · have ha := u8_lt a
    have hb := u8_lt b
    refine ⟨_, _, decL_two h t, by omega, by omega, by simp, ?_, ?_, by omega, fun _ => ⟨?_, ?_⟩⟩
    · unfold two cont at h; omega
    · unfold two cont at h
      rw [Lib.encodeRune, Lib.encodeRuneZ_two (by omega) (by omega)]
      have e1 : (192 + ((a.toNat % 32 * 64 + b.toNat % 64 : Nat) : Int) / 64).toNat = a.toNat := by omega
      have e2 : (128 + ((a.toNat % 32 * 64 + b.toNat % 64 : Nat) : Int) % 64).toNat = b.toNat := by omega
      simp only [List.map_cons, List.map_nil, e1, e2, Nat.toUInt8_eq, UInt8.ofNat_toNat]
      rfl
    · unfold two cont at h; omega
    · unfold two cont at h
      intro x hx
      simp at hx
      rcases hx with rfl | rfl <;> omega
  · have ha := u8_lt a
    have hb := u8_lt b
    have hc := u8_lt c
    refine ⟨_, _, decL_three h t, by omega, by omega, by simp, ?_, ?_, by omega, fun _ => ⟨?_, ?_⟩⟩
    · unfold three cont at h; omega
    · unfold three cont at h
      rw [Lib.encodeRune, Lib.encodeRuneZ_three (by omega)]
      have e1 : (224 + ((a.toNat % 16 * 4096 + b.toNat % 64 * 64 + c.toNat % 64 : Nat) : Int) / 4096).toNat = a.toNat := by omega
      have e2 : (128 + ((a.toNat % 16 * 4096 + b.toNat % 64 * 64 + c.toNat % 64 : Nat) : Int) / 64 % 64).toNat = b.toNat := by omega
      have e3 : (128 + ((a.toNat % 16 * 4096 + b.toNat % 64 * 64 + c.toNat % 64 : Nat) : Int) % 64).toNat = c.toNat := by omega
      simp only [List.map_cons, List.map_nil, e1, e2, e3, Nat.toUInt8_eq, UInt8.ofNat_toNat]
      rfl
    · unfold three cont at h; omega
    · unfold three cont at h
      intro x hx
      simp at hx
      rcases hx with rfl | rfl | rfl <;> omega
  · have ha := u8_lt a
    have hb := u8_lt b
    have hc := u8_lt c
    have hd := u8_lt d
    refine ⟨_, _, decL_four h t, by omega, by omega, by simp, ?_, ?_, by omega, fun _ => ⟨?_, ?_⟩⟩
    · unfold four cont at h; omega
    · unfold four cont at h
      rw [Lib.encodeRune, Lib.encodeRuneZ_four (by omega) (by omega)]
      have e1 : (240 + ((a.toNat % 8 * 262144 + b.toNat % 64 * 4096 + c.toNat % 64 * 64 + d.toNat % 64 : Nat) : Int) / 262144).toNat = a.toNat := by omega
      have e2 : (128 + ((a.toNat % 8 * 262144 + b.toNat % 64 * 4096 + c.toNat % 64 * 64 + d.toNat % 64 : Nat) : Int) / 4096 % 64).toNat = b.toNat := by omega
      have e3 : (128 + ((a.toNat % 8 * 262144 + b.toNat % 64 * 4096 + c.toNat % 64 * 64 + d.toNat % 64 : Nat) : Int) / 64 % 64).toNat = c.toNat := by omega
      have e4 : (128 + ((a.toNat % 8 * 262144 + b.toNat % 64 * 4096 + c.toNat % 64 * 64 + d.toNat % 64 : Nat) : Int) % 64).toNat = d.toNat := by omega
      simp only [List.map_cons, List.map_nil, e1, e2, e3, e4, Nat.toUInt8_eq, UInt8.ofNat_toNat]
      rfl
    · unfold four cont at h; omega
    · unfold four cont at h
      intro x hx
      simp at hx
      rcases hx with rfl | rfl | rfl | rfl <;> omega

theorem stands_append {l : List UInt8} (h : Stands l) (t : List UInt8) : Stands (l ++ t) ∧ decL (l ++ t) = decL l := by
  rcases h with ⟨a, u, h⟩ | ⟨a, b, u, h⟩ | ⟨a, b, c, u, h⟩ | ⟨a, b, c, d, u, h⟩
  · exact ⟨.one a (u ++ t) h, (decL_one h (u ++ t)).trans (decL_one h u).symm⟩
  · exact ⟨.two a b (u ++ t) h, (decL_two h (u ++ t)).trans (decL_two h u).symm⟩
  · exact ⟨.three a b c (u ++ t) h, (decL_three h (u ++ t)).trans (decL_three h u).symm⟩
  · exact ⟨.four a b c d (u ++ t) h, (decL_four h (u ++ t)).trans (decL_four h u).symm⟩

/-- What stands in a longer text stands already in as many bytes of it as it has. -/
theorem stands_take {l t : List UInt8} (h : Stands (l ++ t)) (hw : (decL (l ++ t)).2 ≤ l.length) (hl : l ≠ []) : Stands l := by
  generalize he : l ++ t = m at h hw
  rcases h with ⟨a, u, h⟩ | ⟨a, b, u, h⟩ | ⟨a, b, c, u, h⟩ | ⟨a, b, c, d, u, h⟩
  · rcases l with _ | ⟨x, l⟩
    · exact absurd rfl hl
    · simp at he; rw [he.1]; exact .one _ _ h
  · rw [decL_two h] at hw
    rcases l with _ | ⟨x, _ | ⟨y, l⟩⟩
    · exact absurd rfl hl
    · simp at hw
    · simp at he; rw [he.1, he.2.1]; exact .two _ _ _ h
  · rw [decL_three h] at hw
    rcases l with _ | ⟨x, _ | ⟨y, _ | ⟨z, l⟩⟩⟩
    · exact absurd rfl hl
    · simp at hw
    · simp at hw
    · simp at he; rw [he.1, he.2.1, he.2.2.1]; exact .three _ _ _ _ h
  · rw [decL_four h] at hw
    rcases l with _ | ⟨x, _ | ⟨y, _ | ⟨z, _ | ⟨q, l⟩⟩⟩⟩
    · exact absurd rfl hl
    · simp at hw
    · simp at hw
    · simp at hw
    · simp at he; rw [he.1, he.2.1, he.2.2.1, he.2.2.2.1]; exact .four _ _ _ _ _ h

theorem stands_iff (l : List UInt8) (hl : l ≠ []) : Stands l ↔ decL l ≠ (65533, 1) := by
  rcases l with _ | ⟨a, t⟩
  · exact absurd rfl hl
  constructor
  · intro h
    obtain ⟨v, w, e, h1, h4, hlen, hv, henc, hone, hmore⟩ := stands_dec h
    rw [e]
    intro k
    simp at k
    obtain ⟨_, _, _, _, h128⟩ := hone k.2
    omega
  · intro h
    by_cases hs : Stands (a :: t)
    · exact hs
    · exact absurd (decL_bad a t hs) h

/-- A rune stands there: asked of the rune that a range tells. -/
theorem stands_fffd (l : List UInt8) (hl : l ≠ []) (h : (decL l).1 = 65533) : Stands l ↔ [239, 191, 189] <+: l := by
  constructor
  · intro hs
    obtain ⟨v, w, e, h1, h4, hlen, hv, henc, hone, hmore⟩ := stands_dec hs
    rw [e] at h
    simp only at h
    subst h
    have : Lib.encodeRune ((65533 : Nat) : Int) = [239, 191, 189] := by decide
    rw [this] at henc
    exact ⟨l.drop w, by rw [henc]; exact List.take_append_drop w l⟩
  · rintro ⟨t, rfl⟩
    exact .three _ _ _ t (by unfold three cont; decide)

theorem stands_ne {l : List UInt8} (h : Stands l) : l ≠ [] := by cases h <;> simp
theorem stands_of_rune {l : List UInt8} (hl : l ≠ []) (h : (decL l).1 ≠ 65533) : Stands l := (stands_iff l hl).2 fun k => h (by rw [k])
theorem decL_not {l : List UInt8} (hl : l ≠ []) (h : ¬ Stands l) : decL l = (65533, 1) := by
  rcases l with _ | ⟨a, t⟩
  · exact absurd rfl hl
  · exact decL_bad a t h
theorem width_pos (l : List UInt8) (hl : l ≠ []) : 1 ≤ (decL l).2 ∧ (decL l).2 ≤ l.length ∧ (decL l).2 ≤ 4 := by
  by_cases h : Stands l
  · obtain ⟨v, w, e, h1, h4, hlen, _⟩ := stands_dec h
    rw [e]; exact ⟨h1, hlen, h4⟩
  · rw [decL_not hl h]
    have := List.length_pos_iff.2 hl
    simp only
    omega
end Go.Proofs.YtponiboiijgllaaDoor
