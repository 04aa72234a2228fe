/- Plain mathematics for layer 1 (runes): of a right text, with any text behind it, the chunks are those of both; where the first wrong place is. No condition. -/
import Derived.Test.YtponiboiijgllaaDoorRMathC
namespace Go.Proofs.YtponiboiijgllaaDoor
open Go

theorem right_all : ∀ (l : List Seg) (k : Nat), rightS l k = -1 ↔ ∀ g ∈ l, g.ok = true
  | [], _ => by simp [rightS]
  | g :: t, k => by
    unfold rightS
    by_cases h : g.ok = true
    · simp [h, right_all t]
    · have h : g.ok = false := by simpa using h
      simp [h]
theorem right_shift : ∀ (l : List Seg) (k d : Nat), rightS l (k + d) = if rightS l k = -1 then -1 else rightS l k + d
  | [], _, _ => by simp [rightS]
  | g :: t, k, d => by
    unfold rightS
    by_cases h : g.ok = true
    · simp only [h, if_true]
      rw [show k + d + g.bytes.length = k + g.bytes.length + d by omega]
      exact right_shift t _ d
    · have h : g.ok = false := by simpa using h
      simp [h]
def bytesOf (l : List Seg) : List UInt8 := l.flatMap (·.bytes)
theorem right_append : ∀ (l m : List Seg) (k : Nat), (∀ g ∈ l, g.ok = true) → rightS (l ++ m) k = rightS m (k + (bytesOf l).length)
  | [], m, k, _ => by simp [bytesOf]
  | g :: t, m, k, h => by
    have h1 : g.ok = true := h g (by simp)
    have h2 := right_append t m (k + g.bytes.length) (fun x hx => h x (by simp [hx]))
    simp only [List.cons_append, rightS, h1, if_true]
    rw [h2]
    simp [bytesOf]
    congr 1
    omega
theorem segs_bytes : ∀ (n : Nat) (l : List UInt8), l.length ≤ n → bytesOf (segs l) = l
  | 0, l, h => by
    obtain rfl := List.eq_nil_of_length_eq_zero (Nat.le_zero.1 h)
    rw [segs_nil]
    rfl
  | n + 1, l, h => by
    by_cases hl : l = []
    · subst hl; rw [segs_nil]; rfl
    · have hw := width_pos l hl
      have := segs_bytes n (l.drop (decL l).2) (by simp; omega)
      rw [segs_cons hl]
      unfold bytesOf at *
      rw [List.flatMap_cons, this]
      exact List.take_append_drop _ _
theorem bytes_segs (l : List UInt8) : bytesOf (segs l) = l := segs_bytes _ l (Nat.le_refl _)
theorem segs_app : ∀ (n : Nat) (s t : List UInt8), s.length ≤ n → (∀ g ∈ segs s, g.ok = true) → segs (s ++ t) = segs s ++ segs t
  | 0, s, t, h, _ => by
    obtain rfl := List.eq_nil_of_length_eq_zero (Nat.le_zero.1 h)
    rw [segs_nil]
    rfl
  | n + 1, s, t, h, hok => by
    by_cases hl : s = []
    · subst hl; rw [segs_nil]; rfl
    · have hw := width_pos s hl
      rw [segs_cons hl] at hok ⊢
      have h1 : okB s = true := hok (sg s) (by simp)
      have hs := (okB_iff hl).1 h1
      obtain ⟨hs2, hd⟩ := stands_append hs t
      have hne : s ++ t ≠ [] := by simp [hl]
      rw [segs_cons hne, hd]
      have e : (s ++ t).drop (decL s).2 = s.drop (decL s).2 ++ t := List.drop_append_of_le_length hw.2.1
      rw [e, segs_app n (s.drop (decL s).2) t (by simp; omega) (fun g hg => hok g (by simp [hg]))]
      have e2 : sg (s ++ t) = sg s := by
        unfold sg
        rw [hd, List.take_append_of_le_length hw.2.1, h1, (okB_iff hne).2 hs2]
      rw [e2]
      rfl
theorem segs_append {s t : List UInt8} (h : rightL s = -1) : segs (s ++ t) = segs s ++ segs t := segs_app _ s t (Nat.le_refl _) ((right_all _ _).1 h)
theorem rightL_append {s t : List UInt8} (h : rightL s = -1) : rightL (s ++ t) = if rightL t = -1 then -1 else rightL t + s.length := by
  unfold rightL
  rw [segs_append h, right_append _ _ _ ((right_all _ _).1 h), bytes_segs]
  exact right_shift (segs t) 0 s.length
theorem rightL_bd (l : List UInt8) : -1 ≤ rightL l := rightS_bd _ _
theorem rightS_le : ∀ (l : List Seg) (k : Nat), rightS l k ≤ k + (bytesOf l).length
  | [], k => by simp [rightS]; omega
  | g :: t, k => by
    unfold rightS
    split
    · have := rightS_le t (k + g.bytes.length)
      simp [bytesOf] at *
      omega
    · omega
theorem rightL_le (l : List UInt8) : rightL l ≤ l.length := by
  have := rightS_le (segs l) 0
  rw [bytes_segs] at this
  simpa [rightL] using this
end Go.Proofs.YtponiboiijgllaaDoor
