/- Plain mathematics for layer 1 (runes): the text of any numbers is right, and its runes are the numbers, where these are runes; else U+FFFD. No condition. -/
import Derived.Test.YtponiboiijgllaaDoorRMathD
namespace Go.Proofs.YtponiboiijgllaaDoor
open Go

/-- A number as a rune. -/
def fixR (r : Int) : Nat := if (0 ≤ r ∧ r < 55296) ∨ (57344 ≤ r ∧ r ≤ 1114111) then r.toNat else 65533
def joinL (l : List Int) : List UInt8 := l.flatMap Lib.encodeRune

theorem toNat_u8 {x : Int} (_h0 : 0 ≤ x) (h1 : x < 256) : (x.toNat.toUInt8).toNat = x.toNat := by
  simp [Nat.toUInt8_eq]
  omega
theorem enc_stands (r : Int) (t : List UInt8) : Stands (Lib.encodeRune r ++ t) ∧ decL (Lib.encodeRune r ++ t) = (fixR r, (Lib.encodeRune r).length) := by
  unfold Lib.encodeRune
  by_cases c1 : 0 ≤ r ∧ r ≤ 127
  · rw [Lib.encodeRuneZ_one c1.1 c1.2]
    have e := toNat_u8 (x := r) (by omega) (by omega)
    have h : (r.toNat.toUInt8).toNat < 128 := by omega
    refine ⟨.one _ _ h, ?_⟩
    show decL (r.toNat.toUInt8 :: t) = _
    rw [decL_one h, e, fixR, if_pos (by omega)]
    rfl
  by_cases c2 : 128 ≤ r ∧ r ≤ 2047
  · rw [Lib.encodeRuneZ_two c2.1 c2.2]
    have e1 := toNat_u8 (x := 192 + r / 64) (by omega) (by omega)
    have e2 := toNat_u8 (x := 128 + r % 64) (by omega) (by omega)
    have h : two (192 + r / 64).toNat.toUInt8 (128 + r % 64).toNat.toUInt8 := by
      unfold two cont
      rw [e1, e2]
      omega
    refine ⟨.two _ _ _ h, ?_⟩
    show decL (_ :: _ :: t) = _
    rw [decL_two h, e1, e2, fixR, if_pos (by omega)]
    simp only [List.map_cons, List.map_nil, List.length_cons, List.length_nil]
    apply Prod.ext <;> simp only <;> omega
  by_cases c3 : (2048 ≤ r ∧ r < 55296) ∨ (57343 < r ∧ r ≤ 65535)
  · rw [Lib.encodeRuneZ_three c3]
    have e1 := toNat_u8 (x := 224 + r / 4096) (by omega) (by omega)
    have e2 := toNat_u8 (x := 128 + r / 64 % 64) (by omega) (by omega)
    have e3 := toNat_u8 (x := 128 + r % 64) (by omega) (by omega)
    have h : three (224 + r / 4096).toNat.toUInt8 (128 + r / 64 % 64).toNat.toUInt8 (128 + r % 64).toNat.toUInt8 := by
      unfold three cont
      rw [e1, e2, e3]
      omega
    refine ⟨.three _ _ _ _ h, ?_⟩
    show decL (_ :: _ :: _ :: t) = _
    rw [decL_three h, e1, e2, e3, fixR, if_pos (by omega)]
    simp only [List.map_cons, List.map_nil, List.length_cons, List.length_nil]
    apply Prod.ext <;> simp only <;> omega
  by_cases c4 : 65536 ≤ r ∧ r ≤ 1114111
  · rw [Lib.encodeRuneZ_four c4.1 c4.2]
    have e1 := toNat_u8 (x := 240 + r / 262144) (by omega) (by omega)
    have e2 := toNat_u8 (x := 128 + r / 4096 % 64) (by omega) (by omega)
    have e3 := toNat_u8 (x := 128 + r / 64 % 64) (by omega) (by omega)
    have e4 := toNat_u8 (x := 128 + r % 64) (by omega) (by omega)
    have h : four (240 + r / 262144).toNat.toUInt8 (128 + r / 4096 % 64).toNat.toUInt8 (128 + r / 64 % 64).toNat.toUInt8 (128 + r % 64).toNat.toUInt8 := by
      unfold four cont
      rw [e1, e2, e3, e4]
      omega
    refine ⟨.four _ _ _ _ _ h, ?_⟩
    show decL (_ :: _ :: _ :: _ :: t) = _
    rw [decL_four h, e1, e2, e3, e4, fixR, if_pos (by omega)]
    simp only [List.map_cons, List.map_nil, List.length_cons, List.length_nil]
    apply Prod.ext <;> simp only <;> omega
  · rw [Lib.encodeRuneZ_bad (by omega)]
    have h : three 239 191 189 := by unfold three cont; decide
    refine ⟨.three _ _ _ _ h, ?_⟩
    show decL (239 :: 191 :: 189 :: t) = _
    rw [decL_three h, fixR, if_neg (by omega)]
    rfl
theorem enc_length (r : Int) : 1 ≤ (Lib.encodeRune r).length ∧ (Lib.encodeRune r).length ≤ 4 := by
  have := Lib.runeCells_le r
  rw [Lib.runeCells_length] at this
  exact this
theorem enc_segs (r : Int) (t : List UInt8) : segs (Lib.encodeRune r ++ t) = ⟨true, Lib.encodeRune r, fixR r⟩ :: segs t := by
  obtain ⟨hs, hd⟩ := enc_stands r t
  have hne := stands_ne hs
  rw [segs_cons hne]
  unfold sg
  rw [hd, (okB_iff hne).2 hs]
  simp
theorem join_segs : ∀ l : List Int, segs (joinL l) = l.map fun r => ⟨true, Lib.encodeRune r, fixR r⟩
  | [] => segs_nil
  | r :: t => by
    show segs (Lib.encodeRune r ++ joinL t) = _
    rw [enc_segs, join_segs t]
    rfl
theorem join_right (l : List Int) : rightL (joinL l) = -1 := by
  unfold rightL
  rw [right_all, join_segs]
  intro g hg
  simp at hg
  obtain ⟨r, _, rfl⟩ := hg
  rfl
theorem join_length : ∀ l : List Int, (joinL l).length ≤ 4 * l.length
  | [] => by simp [joinL]
  | r :: t => by
    have := join_length t
    have := enc_length r
    simp [joinL] at *
    omega
end Go.Proofs.YtponiboiijgllaaDoor
