/- Plain mathematics for layer 1 (runes): the chunks of a text (a rune's bytes, or one byte at which none stands), and what Right, Split and Quote are of them. No condition. -/
import Derived.Test.YtponiboiijgllaaDoorRMath
import Derived.RowKit
namespace Go.Proofs.YtponiboiijgllaaDoor
open Go

/-- Does a rune stand at the beginning? -/
def okB (l : List UInt8) : Bool := decL l != (65533, 1)
theorem okB_iff {l : List UInt8} (hl : l ≠ []) : okB l = true ↔ Stands l := by rw [stands_iff l hl]; simp [okB]

structure Seg where
  ok : Bool
  bytes : List UInt8
  r : Nat
def sg (l : List UInt8) : Seg := ⟨okB l, l.take (decL l).2, (decL l).1⟩
def segs (l : List UInt8) : List Seg := if _h : l = [] then [] else sg l :: segs (l.drop (decL l).2)
termination_by l.length
decreasing_by
  have := width_pos l ‹_›
  simp
  omega
theorem segs_nil : segs [] = [] := by rw [segs]; rfl
theorem segs_cons {l : List UInt8} (h : l ≠ []) : segs l = sg l :: segs (l.drop (decL l).2) := by rw [segs, dif_neg h]

theorem len_data (s : ByteArray) : s.data.toList.length = s.size := by simp
theorem drop_ne {s : ByteArray} {i : Nat} (h : i < s.size) : s.data.toList.drop i ≠ [] := by
  intro k
  have := congrArg List.length k
  have := len_data s
  simp at *
  omega
def segsAt (s : ByteArray) (pos : Nat) : List Seg := segs (s.data.toList.drop pos)
def sgAt (s : ByteArray) (pos : Nat) : Seg := sg (s.data.toList.drop pos)
theorem segsAt_step {s : ByteArray} {pos : Nat} (h : pos < s.size) : segsAt s pos = sgAt s pos :: segsAt s (pos + (Utf8.decode s pos).2) := by
  unfold segsAt sgAt
  rw [segs_cons (drop_ne h), List.drop_drop, decode_decL]
theorem segsAt_end {s : ByteArray} {pos : Nat} (h : ¬ pos < s.size) : segsAt s pos = [] := by
  unfold segsAt
  rw [List.drop_eq_nil_of_le (by rw [len_data]; omega), segs_nil]
theorem decode_width {s : ByteArray} {pos : Nat} (h : pos < s.size) : 1 ≤ (Utf8.decode s pos).2 ∧ pos + (Utf8.decode s pos).2 ≤ s.size := by
  have := width_pos _ (drop_ne h)
  rw [decode_decL]
  have := len_data s
  rw [List.length_drop] at *
  omega
theorem sgAt_r (s : ByteArray) (pos : Nat) : (sgAt s pos).r = (Utf8.decode s pos).1 := by rw [decode_decL]; rfl
theorem sgAt_ok (s : ByteArray) (pos : Nat) : (sgAt s pos).ok = okB (s.data.toList.drop pos) := rfl
theorem sgAt_bytes (s : ByteArray) (pos : Nat) (h : pos < s.size) : (sgAt s pos).bytes.length = (Utf8.decode s pos).2 := by
  have := width_pos _ (drop_ne h)
  rw [decode_decL]
  unfold sgAt sg
  simp only [List.length_take]
  omega

/-- The first place at which no rune stands, from place k on. -/
def rightS : List Seg → Nat → Int
  | [], _ => -1
  | g :: t, k => if g.ok then rightS t (k + g.bytes.length) else k
def rightL (l : List UInt8) : Int := rightS (segs l) 0
/-- The runes. -/
def runesL (l : List UInt8) : List Nat := (segs l).map (·.r)

theorem rightS_bd : ∀ (l : List Seg) (k : Nat), -1 ≤ rightS l k
  | [], _ => by simp [rightS]
  | g :: t, k => by
    unfold rightS
    split
    · exact rightS_bd t _
    · omega

/-- A rune's class. -/
def classZ (r : Int) : Int :=
  if 97 ≤ r ∧ r ≤ 122 then 1 else if 48 ≤ r ∧ r ≤ 57 then 2 else if r = 32 ∨ r = 9 then 3 else if r = 34 ∨ r = 92 then 4 else if 33 ≤ r ∧ r ≤ 126 then 5 else 0
/-- May a rune stand between quotes as it is? -/
def plainB (r : Int) : Bool := decide (32 ≤ r ∧ r ≠ 127)
/-- A digit's byte. -/
def hexd (n : Nat) : UInt8 := if n < 10 then UInt8.ofNat (48 + n) else UInt8.ofNat (87 + n)
/-- A chunk between quotes. -/
def quoteSeg (g : Seg) : List UInt8 :=
  if g.ok && plainB g.r then (if classZ g.r = 4 then [92] else []) ++ Lib.encodeRune g.r
  else [92, 120, hexd ((g.bytes.headD 0).toNat / 16), hexd ((g.bytes.headD 0).toNat % 16)]
def bodyL (l : List UInt8) : List UInt8 := (segs l).flatMap quoteSeg
def quoteL (l : List UInt8) : List UInt8 := [34] ++ bodyL l ++ [34]
theorem quoteSeg_le (g : Seg) : (quoteSeg g).length ≤ 5 := by
  have h : (Lib.encodeRune g.r).length ≤ 4 := by
    have := Lib.runeCells_le g.r
    rw [Lib.runeCells_length] at this
    exact this.2
  unfold quoteSeg
  repeat' split
  all_goals simp
  all_goals omega
end Go.Proofs.YtponiboiijgllaaDoor
