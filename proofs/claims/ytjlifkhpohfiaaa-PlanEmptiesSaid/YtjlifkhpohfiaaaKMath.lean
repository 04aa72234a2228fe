/- Plain mathematics for layer 4 (key): the order of texts by their bytes, spans, what two have in common, the text behind a text. No condition. -/
import Derived.Test.YtjlifkhpohfiaaaRows
import Derived.WalkKit
import Derived.Lib.Strings
namespace Go.Proofs.Ytjlifkhpohfiaaa
open Go.Op
set_option maxRecDepth 100000

theorem less_irr : ∀ x : List UInt8, bytesLess x x = false
  | [] => rfl
  | a :: x => by simp [bytesLess, less_irr x]
theorem less_asym : ∀ x y : List UInt8, bytesLess x y = true → bytesLess y x = false
  | _, [] => by intro h; cases ‹List UInt8› <;> simp [bytesLess] at h
  | [], _ :: _ => by intro _; rfl
  | a :: x, b :: y => by
    intro h
    simp only [bytesLess, Bool.or_eq_true, decide_eq_true_eq, Bool.and_eq_true, beq_iff_eq] at h
    simp only [bytesLess, Bool.or_eq_false_iff, decide_eq_false_iff_not, Bool.and_eq_false_iff, beq_eq_false_iff_ne]
    rcases h with h | ⟨rfl, h⟩
    · rw [UInt8.lt_iff_toNat_lt] at h
      refine ⟨by rw [UInt8.lt_iff_toNat_lt]; omega, .inl ?_⟩
      rintro rfl
      omega
    · exact ⟨by rw [UInt8.lt_iff_toNat_lt]; omega, .inr (less_asym x y h)⟩
theorem less_total : ∀ x y : List UInt8, bytesLess x y = false → bytesLess y x = false → x = y
  | [], [] => fun _ _ => rfl
  | [], _ :: _ => by intro h; simp [bytesLess] at h
  | _ :: _, [] => by intro _ h; simp [bytesLess] at h
  | a :: x, b :: y => by
    intro h1 h2
    simp only [bytesLess, Bool.or_eq_false_iff, decide_eq_false_iff_not, Bool.and_eq_false_iff, beq_eq_false_iff_ne] at h1 h2
    obtain ⟨p1, q1⟩ := h1
    obtain ⟨p2, q2⟩ := h2
    rw [UInt8.lt_iff_toNat_lt] at p1 p2
    have e : a = b := UInt8.toNat_inj.1 (by omega)
    subst e
    rw [less_total x y (by simpa using q1) (by simpa using q2)]
theorem less_trans : ∀ x y z : List UInt8, bytesLess x y = true → bytesLess y z = true → bytesLess x z = true
  | _, [], _ => by intro h; cases ‹List UInt8› <;> simp [bytesLess] at h
  | _, _ :: _, [] => by intro _ h; simp [bytesLess] at h
  | [], _ :: _, _ :: _ => by intro _ _; rfl
  | a :: x, b :: y, c :: z => by
    intro h1 h2
    simp only [bytesLess, Bool.or_eq_true, decide_eq_true_eq, Bool.and_eq_true, beq_iff_eq, UInt8.lt_iff_toNat_lt] at h1 h2 ⊢
    rcases h1 with h1 | ⟨rfl, h1⟩
    · rcases h2 with h2 | ⟨rfl, h2⟩
      · exact .inl (by omega)
      · exact .inl h1
    · rcases h2 with h2 | ⟨rfl, h2⟩
      · exact .inl h2
      · exact .inr ⟨rfl, less_trans x y z h1 h2⟩
/-- No text stands between a text and the same with the byte 0 behind it. -/
theorem less_next : ∀ x y : List UInt8, bytesLess y (x ++ [0]) = !bytesLess x y
  | [], [] => rfl
  | [], b :: y => by
    have : ¬ b < (0 : UInt8) := by rw [UInt8.lt_iff_toNat_lt]; simp
    cases y <;> simp [bytesLess, this]
  | a :: x, [] => by simp [bytesLess]
  | a :: x, b :: y => by
    have ih := less_next x y
    simp only [List.cons_append, bytesLess, ih]
    rcases Nat.lt_trichotomy a.toNat b.toNat with h | h | h
    · have h1 : a < b := by rw [UInt8.lt_iff_toNat_lt]; exact h
      have h2 : ¬ b < a := by rw [UInt8.lt_iff_toNat_lt]; omega
      have h3 : (b == a) = false := by rw [beq_eq_false_iff_ne]; rintro rfl; omega
      simp [h1, h2, h3]
    · have h0 : a = b := UInt8.toNat_inj.1 h
      subst h0
      have h2 : ¬ a < a := by rw [UInt8.lt_iff_toNat_lt]; omega
      simp [h2]
    · have h1 : b < a := by rw [UInt8.lt_iff_toNat_lt]; exact h
      have h2 : ¬ a < b := by rw [UInt8.lt_iff_toNat_lt]; omega
      have h3 : (a == b) = false := by rw [beq_eq_false_iff_ne]; rintro rfl; omega
      simp [h1, h2, h3]

theorem bytes_inj {a b : ByteArray} (h : a.toList = b.toList) : a = b := by
  have h' : a.data.toList = b.data.toList := by rw [← ByteArray.toList_eq, ← ByteArray.toList_eq, h]
  cases a; cases b
  simp only [ByteArray.mk.injEq]
  exact Array.toList_inj.1 h'

def lt (a b : ByteArray) : Bool := bytesLess a.toList b.toList
theorem lt_irr (a : ByteArray) : lt a a = false := less_irr _
theorem lt_asym {a b : ByteArray} (h : lt a b = true) : lt b a = false := less_asym _ _ h
theorem lt_total {a b : ByteArray} (h : lt a b = false) (g : lt b a = false) : a = b := bytes_inj (less_total _ _ h g)
theorem lt_trans {a b c : ByteArray} (h : lt a b = true) (g : lt b c = true) : lt a c = true := less_trans _ _ _ h g
theorem le_trans {a b c : ByteArray} (h : lt b a = false) (g : lt c b = false) : lt c a = false := by
  cases e : lt c a with
  | false => rfl
  | true =>
    cases e2 : lt a b with
    | true => rw [lt_trans e e2] at g; cases g
    | false => rw [lt_total e2 h] at e; rw [e] at g; cases g
theorem lt_le {a b c : ByteArray} (h : lt a b = true) (g : lt c b = false) : lt a c = true := by
  cases e : lt b c with
  | true => exact lt_trans h e
  | false => rw [← lt_total e g]; exact h
theorem le_lt {a b c : ByteArray} (h : lt b a = false) (g : lt b c = true) : lt a c = true := by
  cases e : lt a b with
  | true => exact lt_trans e g
  | false => rw [lt_total e h]; exact g
theorem tri (a b : ByteArray) :
    (bytesLess a.toList b.toList = true ∧ bytesLess b.toList a.toList = false ∧ (a.toList == b.toList) = false) ∨
    (bytesLess a.toList b.toList = false ∧ bytesLess b.toList a.toList = false ∧ (a.toList == b.toList) = true) ∨
    (bytesLess a.toList b.toList = false ∧ bytesLess b.toList a.toList = true ∧ (a.toList == b.toList) = false) := by
  have ne : ∀ {a b : ByteArray}, bytesLess a.toList b.toList = true → (a.toList == b.toList) = false := fun {a b} h => by
    rw [beq_eq_false_iff_ne]
    intro e
    rw [e, less_irr] at h
    cases h
  have ne2 : ∀ {a b : ByteArray}, bytesLess a.toList b.toList = true → (b.toList == a.toList) = false := fun {a b} h => by
    rw [beq_eq_false_iff_ne]
    intro e
    rw [e, less_irr] at h
    cases h
  cases h1 : bytesLess a.toList b.toList with
  | true => exact .inl ⟨rfl, less_asym _ _ h1, ne h1⟩
  | false =>
    cases h2 : bytesLess b.toList a.toList with
    | true => exact .inr (.inr ⟨rfl, rfl, ne2 h2⟩)
    | false => exact .inr (.inl ⟨rfl, rfl, by rw [beq_iff_eq]; exact less_total _ _ h1 h2⟩)

structure Sp where
  lo : ByteArray
  hi : ByteArray
  all : Bool
def Sp.v (s : Sp) : Value := .agg #[.string s.lo, .string s.hi, .bool s.all]
def no : ByteArray := ⟨#[]⟩
def Sp.has (s : Sp) (k : ByteArray) : Bool := !lt k s.lo && (s.all || lt k s.hi)
def Sp.good (s : Sp) : Bool := s.all || !lt s.hi s.lo
def Sp.empty (s : Sp) : Bool := !s.all && !lt s.lo s.hi
def mx (a b : ByteArray) : ByteArray := if lt a b then b else a
def mn (a b : ByteArray) : ByteArray := if lt b a then b else a
def Sp.meet (a b : Sp) : Sp := ⟨mx a.lo b.lo, if a.all then (if b.all then no else b.hi) else if b.all then a.hi else mn a.hi b.hi, a.all && b.all⟩
def Sp.joins (a b : Sp) : Bool := !a.all && a.hi.toList == b.lo.toList
def whole : Sp := ⟨no, no, true⟩

theorem mx_comm (a b : ByteArray) : mx a b = mx b a := by
  unfold mx
  cases h : lt a b with
  | true => simp [lt_asym h]
  | false =>
    cases g : lt b a with
    | true => simp
    | false => simp [lt_total h g]
theorem mn_comm (a b : ByteArray) : mn a b = mn b a := by
  unfold mn
  cases h : lt a b with
  | true => simp [lt_asym h]
  | false =>
    cases g : lt b a with
    | true => simp
    | false => simp [lt_total h g]
theorem meet_comm (a b : Sp) : a.meet b = b.meet a := by
  obtain ⟨al, ah, aa⟩ := a
  obtain ⟨bl, bh, ba⟩ := b
  unfold Sp.meet
  cases aa <;> cases ba <;> simp [mx_comm al bl, mn_comm ah bh]
theorem lt_mx (k a b : ByteArray) : (!lt k (mx a b)) = (!lt k a && !lt k b) := by
  unfold mx
  cases h : lt a b with
  | true =>
    cases g : lt k b with
    | true => simp [g]
    | false =>
      have : lt k a = false := le_trans (lt_asym h) g
      simp [g, this]
  | false =>
    cases g : lt k a with
    | true => simp [g]
    | false =>
      have : lt k b = false := le_trans h g
      simp [g, this]
theorem lt_mn (k a b : ByteArray) : lt k (mn a b) = (lt k a && lt k b) := by
  unfold mn
  cases h : lt b a with
  | true =>
    cases g : lt k b with
    | true => simp [g, lt_trans g h]
    | false => simp [g]
  | false =>
    cases g : lt k a with
    | true => simp [g, lt_le g h]
    | false => simp [g]
theorem has_meet (a b : Sp) (k : ByteArray) : (a.meet b).has k = (a.has k && b.has k) := by
  obtain ⟨al, ah, aa⟩ := a
  obtain ⟨bl, bh, ba⟩ := b
  unfold Sp.has Sp.meet
  simp only [lt_mx]
  cases aa <;> cases ba <;> simp [lt_mn] <;> cases lt k al <;> cases lt k bl <;> simp
theorem lt_no (k : ByteArray) : lt k no = false := by
  unfold lt no
  rw [show (⟨#[]⟩ : ByteArray).toList = [] by rw [ByteArray.toList_eq]]
  cases k.toList <;> rfl
theorem has_below (s : Sp) (t k : ByteArray) : (s.meet ⟨no, t, false⟩).has k = (s.has k && lt k t) := by
  rw [has_meet]
  simp [Sp.has, lt_no]
theorem has_beyond (s : Sp) (t k : ByteArray) : (s.meet ⟨t, no, true⟩).has k = (s.has k && !lt k t) := by
  rw [has_meet]
  simp [Sp.has]
theorem empty_has (s : Sp) : (!s.has s.lo) = s.empty := by
  unfold Sp.has Sp.empty
  rw [lt_irr]
  cases s.all <;> simp
/-- Of spans that join, both good: a text lies in the whole just if it lies in one of both, and never in both. -/
theorem joined (a b : Sp) (k : ByteArray) (hj : a.joins b = true) (ha : a.good = true) (hb : b.good = true) :
    (Sp.mk a.lo b.hi b.all).has k = (a.has k || b.has k) ∧ (a.has k && b.has k) = false := by
  obtain ⟨al, ah, aa⟩ := a
  obtain ⟨bl, bh, ba⟩ := b
  unfold Sp.joins at hj
  simp only [Bool.and_eq_true, Bool.not_eq_true', beq_iff_eq] at hj
  obtain ⟨h1, h2⟩ := hj
  have h2 := bytes_inj h2
  subst h1 h2
  unfold Sp.good at ha hb
  simp only [Bool.false_or, Bool.not_eq_true'] at ha
  unfold Sp.has
  simp only [Bool.false_or]
  cases h : lt k al with
  | true =>
    have : lt k ah = true := lt_le h ha
    simp [this]
  | false =>
    cases g : lt k ah with
    | true =>
      simp only [Bool.not_false, Bool.true_and, Bool.not_true, Bool.false_and, Bool.or_false, and_true]
      cases ba with
      | true => rfl
      | false =>
        simp only [Bool.false_or, Bool.not_eq_true'] at hb
        exact lt_le g hb
    | false => simp
end Go.Proofs.Ytjlifkhpohfiaaa
