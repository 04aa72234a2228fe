/- Plain mathematics for layer 1 (runes): what stands between quotes, byte by byte. No condition. -/
import Derived.Test.YtponiboiijgllaaDoorRMathE
import Derived.Lib.Bytealg
namespace Go.Proofs.YtponiboiijgllaaDoor
open Go

/-- The value of a digit; 16: it is none. -/
def hexv (c : UInt8) : Nat := if 48 ≤ c.toNat ∧ c.toNat ≤ 57 then c.toNat - 48 else if 97 ≤ c.toNat ∧ c.toNat ≤ 102 then c.toNat - 87 else 16
theorem hexv_le (c : UInt8) : hexv c ≤ 16 := by
  unfold hexv
  repeat' split
  all_goals omega
def hexl : List UInt8 := [48, 49, 50, 51, 52, 53, 54, 55, 56, 57, 97, 98, 99, 100, 101, 102]
theorem hex_index_nat : ∀ n : Fin 256, Lib.indexByte hexl (UInt8.ofNat n.val) = if hexv (UInt8.ofNat n.val) < 16 then (hexv (UInt8.ofNat n.val) : Int) else -1 := by decide +kernel
theorem hex_index (c : UInt8) : Lib.indexByte hexl c = if hexv c < 16 then (hexv c : Int) else -1 := by
  have := hex_index_nat ⟨c.toNat, c.toNat_lt⟩
  simpa using this

/-- What is meant by what stands behind a \, and how many bytes tell it. -/
def esc : List UInt8 → Option (UInt8 × Nat)
  | [] => none
  | c :: t =>
    if c = 34 ∨ c = 92 then some (c, 1)
    else if c ≠ 120 then none
    else match t with
      | a :: b :: _ => if hexv a < 16 ∧ hexv b < 16 then some (UInt8.ofNat (16 * hexv a + hexv b), 3) else none
      | _ => none
theorem esc_cons (c : UInt8) (t : List UInt8) : esc (c :: t) = if c = 34 ∨ c = 92 then some (c, 1) else if c ≠ 120 then none else match t with
      | a :: b :: _ => if hexv a < 16 ∧ hexv b < 16 then some (UInt8.ofNat (16 * hexv a + hexv b), 3) else none
      | _ => none := rfl
theorem esc_le {l : List UInt8} {x : UInt8} {n : Nat} (h : esc l = some (x, n)) : 1 ≤ n ∧ n ≤ 3 ∧ n ≤ l.length ∧ ∀ y ∈ l.take n, y.toNat < 128 := by
  rcases l with _ | ⟨c, t⟩
  · simp [esc] at h
  · rw [esc_cons] at h
    split at h
    · rename_i hc
      simp at h
      obtain ⟨rfl, rfl⟩ := h
      refine ⟨by omega, by omega, by simp, ?_⟩
      intro y hy
      simp at hy
      rcases hc with rfl | rfl <;> (rw [hy]; decide)
    · split at h
      · cases h
      · rename_i hc
        have hc : c = 120 := by simpa using hc
        rcases t with _ | ⟨a, _ | ⟨b, t⟩⟩
        · simp at h
        · simp at h
        · simp only at h
          split at h
          · rename_i hab
            simp at h
            obtain ⟨rfl, rfl⟩ := h
            refine ⟨by omega, by omega, by simp, ?_⟩
            intro y hy
            simp at hy
            unfold hexv at hab
            rcases hy with rfl | rfl | rfl
            · rw [hc]; decide
            · have := hab.1; split at this <;> (try split at this) <;> omega
            · have := hab.2; split at this <;> (try split at this) <;> omega
          · cases h

def unq (l : List UInt8) : Option (List UInt8) :=
  match _h : l with
  | [] => some []
  | c :: t =>
    if c = 92 then
      match esc t with
      | none => none
      | some (x, n) => (unq (t.drop n)).map (x :: ·)
    else if c = 34 ∨ c.toNat < 32 ∨ c = 127 then none
    else (unq t).map (c :: ·)
termination_by l.length
decreasing_by
  · subst _h; simp; omega
  · subst _h; simp
theorem unq_nil : unq [] = some [] := by rw [unq]
theorem unq_cons (c : UInt8) (t : List UInt8) : unq (c :: t) = if c = 92 then (match esc t with | none => none | some (x, n) => (unq (t.drop n)).map (x :: ·)) else if c = 34 ∨ c.toNat < 32 ∨ c = 127 then none else (unq t).map (c :: ·) := by rw [unq]
theorem unq_esc {t : List UInt8} {x : UInt8} {n : Nat} (h : esc t = some (x, n)) : unq (92 :: t) = (unq (t.drop n)).map (x :: ·) := by rw [unq_cons, if_pos rfl, h]
theorem unq_noesc {t : List UInt8} (h : esc t = none) : unq (92 :: t) = none := by rw [unq_cons, if_pos rfl, h]
theorem unq_bad {c : UInt8} (t : List UInt8) (h0 : c ≠ 92) (h : c = 34 ∨ c.toNat < 32 ∨ c = 127) : unq (c :: t) = none := by rw [unq_cons, if_neg h0, if_pos h]
theorem unq_plain {c : UInt8} (t : List UInt8) (h0 : c ≠ 92) (h1 : c ≠ 34) (h2 : 32 ≤ c.toNat) (h3 : c ≠ 127) : unq (c :: t) = (unq t).map (c :: ·) := by
  rw [unq_cons, if_neg h0, if_neg (by rintro (h | h | h); exact h1 h; omega; exact h3 h)]
theorem unq_run : ∀ (l t : List UInt8), (∀ c ∈ l, c ≠ 92 ∧ c ≠ 34 ∧ 32 ≤ c.toNat ∧ c ≠ 127) → unq (l ++ t) = (unq t).map (l ++ ·)
  | [], t, _ => by cases h : unq t <;> simp [h]
  | c :: l, t, h => by
    obtain ⟨h0, h1, h2, h3⟩ := h c (by simp)
    rw [List.cons_append, unq_plain _ h0 h1 h2 h3, unq_run l t (fun x hx => h x (by simp [hx])), Option.map_map]
    rfl

/-- What stands between quotes. -/
def unquoteL (l : List UInt8) : Option (List UInt8) :=
  if 2 ≤ l.length ∧ l.head? = some 34 ∧ l.getLast? = some 34 ∧ rightL l = -1 then unq ((l.drop 1).take (l.length - 2)) else none
end Go.Proofs.YtponiboiijgllaaDoor
