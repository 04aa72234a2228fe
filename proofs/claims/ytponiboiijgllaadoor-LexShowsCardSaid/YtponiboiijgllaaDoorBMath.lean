/- The order of numbers, of texts by their bytes, and of boxes, as one of -1, 0 and 1: it turns round with its two sides, is 0 just for one and the same, and goes on from one to the next. No condition. -/
import Derived.Test.YtponiboiijgllaaDoorBWalkB
namespace Go.Proofs.YtponiboiijgllaaDoor
open Go.Op

theorem less_irr : ∀ x : List UInt8, bytesLess x x = false
  | [] => rfl
  | a :: x => by simp [bytesLess, less_irr x]
theorem less_asym : ∀ x y : List UInt8, bytesLess x y = true → bytesLess y x = false
  | _, [] => by intro h; cases ‹List UInt8› <;> simp [bytesLess] at h
  | [], _ :: _ => by intro _; rfl
  | a :: x, b :: y => by
    intro h
    simp only [bytesLess, Bool.or_eq_true, decide_eq_true_eq, Bool.and_eq_true, beq_iff_eq] at h
    simp only [bytesLess, Bool.or_eq_false_iff, decide_eq_false_iff_not, Bool.and_eq_false_iff, beq_eq_false_iff_ne]
    rcases h with h | ⟨rfl, h⟩
    · rw [UInt8.lt_iff_toNat_lt] at h
      refine ⟨by rw [UInt8.lt_iff_toNat_lt]; omega, .inl ?_⟩
      rintro rfl
      omega
    · exact ⟨by rw [UInt8.lt_iff_toNat_lt]; omega, .inr (less_asym x y h)⟩
theorem less_total : ∀ x y : List UInt8, bytesLess x y = false → bytesLess y x = false → x = y
  | [], [] => fun _ _ => rfl
  | [], _ :: _ => by intro h; simp [bytesLess] at h
  | _ :: _, [] => by intro _ h; simp [bytesLess] at h
  | a :: x, b :: y => by
    intro h1 h2
    simp only [bytesLess, Bool.or_eq_false_iff, decide_eq_false_iff_not, Bool.and_eq_false_iff, beq_eq_false_iff_ne] at h1 h2
    obtain ⟨p1, q1⟩ := h1
    obtain ⟨p2, q2⟩ := h2
    rw [UInt8.lt_iff_toNat_lt] at p1 p2
    have e : a = b := UInt8.toNat_inj.1 (by omega)
    subst e
    rw [less_total x y (by simpa using q1) (by simpa using q2)]
theorem less_trans : ∀ x y z : List UInt8, bytesLess x y = true → bytesLess y z = true → bytesLess x z = true
  | _, [], _ => by intro h; cases ‹List UInt8› <;> simp [bytesLess] at h
  | _, _ :: _, [] => by intro _ h; simp [bytesLess] at h
  | [], _ :: _, _ :: _ => by intro _ _; rfl
  | a :: x, b :: y, c :: z => by
    intro h1 h2
    simp only [bytesLess, Bool.or_eq_true, decide_eq_true_eq, Bool.and_eq_true, beq_iff_eq, UInt8.lt_iff_toNat_lt] at h1 h2 ⊢
    rcases h1 with h1 | ⟨rfl, h1⟩
    · rcases h2 with h2 | ⟨rfl, h2⟩
      · exact .inl (by omega)
      · exact .inl h1
    · rcases h2 with h2 | ⟨rfl, h2⟩
      · exact .inl h2
      · exact .inr ⟨rfl, less_trans x y z h1 h2⟩

theorem bytes_inj {a b : ByteArray} (h : a.toList = b.toList) : a = b := by
  have h' : a.data.toList = b.data.toList := by rw [← ByteArray.toList_eq, ← ByteArray.toList_eq, h]
  cases a; cases b
  simp only [ByteArray.mk.injEq]
  exact Array.toList_inj.1 h'

def cmpI (a b : Int) : Int := if a < b then -1 else if b < a then 1 else 0
def cmpS (a b : ByteArray) : Int := if bytesLess a.toList b.toList then -1 else if bytesLess b.toList a.toList then 1 else 0
def Bx.cmp (a b : Bx) : Int :=
  if a.kd < b.kd then -1 else if b.kd < a.kd then 1 else
  match a, b with
  | .num x, .num y => cmpI x y
  | .nam x, .nam y => cmpS x y
  | .txt x, .txt y => cmpS x y
  | _, _ => 0

theorem cmpI_neg (a b : Int) : cmpI b a = - cmpI a b := by unfold cmpI; split <;> split <;> first | rfl | omega
theorem cmpI_zero (a b : Int) : cmpI a b = 0 ↔ a = b := by
  unfold cmpI
  split
  · simp; omega
  · split
    · simp; omega
    · simp; omega
theorem cmpI_le (a b c : Int) (h1 : cmpI a b ≤ 0) (h2 : cmpI b c ≤ 0) : cmpI a c ≤ 0 := by
  unfold cmpI at *
  split at h1 <;> split at h2 <;> split <;> (try split at h1) <;> (try split at h2) <;> (try split) <;> omega
theorem cmpS_neg (a b : ByteArray) : cmpS b a = - cmpS a b := by
  unfold cmpS
  by_cases h1 : bytesLess a.toList b.toList = true
  · simp [h1, less_asym _ _ h1]
  · by_cases h2 : bytesLess b.toList a.toList = true
    · simp [h2, less_asym _ _ h2]
    · simp [h1, h2]
theorem cmpS_zero (a b : ByteArray) : cmpS a b = 0 ↔ a = b := by
  constructor
  · intro h
    unfold cmpS at h
    by_cases h1 : bytesLess a.toList b.toList = true
    · simp [h1] at h
    · by_cases h2 : bytesLess b.toList a.toList = true
      · simp [h2] at h; omega
      · exact bytes_inj (less_total _ _ (by simpa using h1) (by simpa using h2))
  · rintro rfl
    simp [cmpS, less_irr]
theorem cmpS_le (a b c : ByteArray) (h1 : cmpS a b ≤ 0) (h2 : cmpS b c ≤ 0) : cmpS a c ≤ 0 := by
  have n1 : bytesLess b.toList a.toList = false := by
    by_cases h : bytesLess b.toList a.toList = true
    · simp [cmpS, less_asym _ _ h, h] at h1
    · simpa using h
  have n2 : bytesLess c.toList b.toList = false := by
    by_cases h : bytesLess c.toList b.toList = true
    · simp [cmpS, less_asym _ _ h, h] at h2
    · simpa using h
  by_cases h : bytesLess c.toList a.toList = true
  · exfalso
    by_cases e1 : bytesLess a.toList b.toList = true
    · have := less_trans _ _ _ h e1
      rw [this] at n2; cases n2
    · have e := less_total _ _ (by simpa using e1) n1
      rw [e, n2] at h
      cases h
  · unfold cmpS
    split <;> simp_all

theorem bcmp_neg (a b : Bx) : b.cmp a = - a.cmp b := by
  cases a <;> cases b <;> first | rfl | exact cmpI_neg _ _ | exact cmpS_neg _ _
theorem bcmp_zero (a b : Bx) : a.cmp b = 0 ↔ a = b := by
  cases a <;> cases b <;> first
    | exact (cmpI_zero _ _).trans ⟨fun h => by rw [h], fun h => by cases h; rfl⟩
    | exact (cmpS_zero _ _).trans ⟨fun h => by rw [h], fun h => by cases h; rfl⟩
    | exact ⟨fun _ => rfl, fun _ => rfl⟩
    | exact ⟨fun h => by revert h; simp [Bx.cmp, Bx.kd], fun h => by cases h⟩
theorem bcmp_le (a b c : Bx) (h1 : a.cmp b ≤ 0) (h2 : b.cmp c ≤ 0) : a.cmp c ≤ 0 := by
  cases a <;> cases b <;> (try (exfalso; revert h1; simp [Bx.cmp, Bx.kd]; done)) <;> cases c <;>
    first
    | (exact Int.le_refl 0)
    | (exact (by decide : (-1 : Int) ≤ 0))
    | (exfalso; revert h2; simp [Bx.cmp, Bx.kd]; done)
    | (exact cmpI_le _ _ _ h1 h2)
    | (exact cmpS_le _ _ _ h1 h2)
end Go.Proofs.YtponiboiijgllaaDoor
