/- Texts in the order of their bytes, spans of them, what key.Has and key.Empty answer, slices.Sort's rows. No condition. -/
import Derived.Test.YtibimnibmengpaaDoorShelf
import Derived.Test.YtibimnibmengpaaDoorMq
import Derived.Sort.Walk0
import Derived.Lib.RowBridge
namespace Go.Proofs.YtibimnibmengpaaDoor
open Go.RowKit Go.Op Go
set_option maxRecDepth 100000

theorem less_irr : ∀ x : List UInt8, bytesLess x x = false
  | [] => rfl
  | a :: x => by simp [bytesLess, less_irr x]
theorem less_asym : ∀ x y : List UInt8, bytesLess x y = true → bytesLess y x = false
  | _, [] => by intro h; cases ‹List UInt8› <;> simp [bytesLess] at h
  | [], _ :: _ => by intro _; rfl
  | a :: x, b :: y => by
    intro h
    simp only [bytesLess, Bool.or_eq_true, decide_eq_true_eq, Bool.and_eq_true, beq_iff_eq] at h
    simp only [bytesLess, Bool.or_eq_false_iff, decide_eq_false_iff_not, Bool.and_eq_false_iff, beq_eq_false_iff_ne]
    rcases h with h | ⟨rfl, h⟩
    · rw [UInt8.lt_iff_toNat_lt] at h
      refine ⟨by rw [UInt8.lt_iff_toNat_lt]; omega, .inl ?_⟩
      rintro rfl
      omega
    · exact ⟨by rw [UInt8.lt_iff_toNat_lt]; omega, .inr (less_asym x y h)⟩
theorem less_total : ∀ x y : List UInt8, bytesLess x y = false → bytesLess y x = false → x = y
  | [], [] => fun _ _ => rfl
  | [], _ :: _ => by intro h; simp [bytesLess] at h
  | _ :: _, [] => by intro _ h; simp [bytesLess] at h
  | a :: x, b :: y => by
    intro h1 h2
    simp only [bytesLess, Bool.or_eq_false_iff, decide_eq_false_iff_not, Bool.and_eq_false_iff, beq_eq_false_iff_ne] at h1 h2
    obtain ⟨p1, q1⟩ := h1
    obtain ⟨p2, q2⟩ := h2
    rw [UInt8.lt_iff_toNat_lt] at p1 p2
    have e : a = b := UInt8.toNat_inj.1 (by omega)
    subst e
    rw [less_total x y (by simpa using q1) (by simpa using q2)]
theorem less_trans : ∀ x y z : List UInt8, bytesLess x y = true → bytesLess y z = true → bytesLess x z = true
  | _, [], _ => by intro h; cases ‹List UInt8› <;> simp [bytesLess] at h
  | _, _ :: _, [] => by intro _ h; simp [bytesLess] at h
  | [], _ :: _, _ :: _ => by intro _ _; rfl
  | a :: x, b :: y, c :: z => by
    intro h1 h2
    simp only [bytesLess, Bool.or_eq_true, decide_eq_true_eq, Bool.and_eq_true, beq_iff_eq, UInt8.lt_iff_toNat_lt] at h1 h2 ⊢
    rcases h1 with h1 | ⟨rfl, h1⟩
    · rcases h2 with h2 | ⟨rfl, h2⟩
      · exact .inl (by omega)
      · exact .inl h1
    · rcases h2 with h2 | ⟨rfl, h2⟩
      · exact .inl h2
      · exact .inr ⟨rfl, less_trans x y z h1 h2⟩
/-- No text stands between a text and the same with the byte 0 behind it. -/
theorem less_next : ∀ x y : List UInt8, bytesLess y (x ++ [0]) = !bytesLess x y
  | [], [] => rfl
  | [], b :: y => by
    have : ¬ b < (0 : UInt8) := by rw [UInt8.lt_iff_toNat_lt]; simp
    cases y <;> simp [bytesLess, this]
  | a :: x, [] => by simp [bytesLess]
  | a :: x, b :: y => by
    have ih := less_next x y
    simp only [List.cons_append, bytesLess, ih]
    rcases Nat.lt_trichotomy a.toNat b.toNat with h | h | h
    · have h1 : a < b := by rw [UInt8.lt_iff_toNat_lt]; exact h
      have h2 : ¬ b < a := by rw [UInt8.lt_iff_toNat_lt]; omega
      have h3 : (b == a) = false := by rw [beq_eq_false_iff_ne]; rintro rfl; omega
      simp [h1, h2, h3]
    · have h0 : a = b := UInt8.toNat_inj.1 h
      subst h0
      have h2 : ¬ a < a := by rw [UInt8.lt_iff_toNat_lt]; omega
      simp [h2]
    · have h1 : b < a := by rw [UInt8.lt_iff_toNat_lt]; exact h
      have h2 : ¬ a < b := by rw [UInt8.lt_iff_toNat_lt]; omega
      have h3 : (a == b) = false := by rw [beq_eq_false_iff_ne]; rintro rfl; omega
      simp [h1, h2, h3]

theorem bytes_inj {a b : ByteArray} (h : a.toList = b.toList) : a = b := by
  have h' : a.data.toList = b.data.toList := by rw [← ByteArray.toList_eq, ← ByteArray.toList_eq, h]
  cases a; cases b
  simp only [ByteArray.mk.injEq]
  exact Array.toList_inj.1 h'

def lt (a b : ByteArray) : Bool := bytesLess a.toList b.toList
theorem lt_irr (a : ByteArray) : lt a a = false := less_irr _
theorem lt_asym {a b : ByteArray} (h : lt a b = true) : lt b a = false := less_asym _ _ h
theorem lt_total {a b : ByteArray} (h : lt a b = false) (g : lt b a = false) : a = b := bytes_inj (less_total _ _ h g)
theorem lt_trans {a b c : ByteArray} (h : lt a b = true) (g : lt b c = true) : lt a c = true := less_trans _ _ _ h g
theorem le_trans {a b c : ByteArray} (h : lt b a = false) (g : lt c b = false) : lt c a = false := by
  cases e : lt c a with
  | false => rfl
  | true =>
    cases e2 : lt a b with
    | true => rw [lt_trans e e2] at g; cases g
    | false => rw [lt_total e2 h] at e; rw [e] at g; cases g
theorem lt_le {a b c : ByteArray} (h : lt a b = true) (g : lt c b = false) : lt a c = true := by
  cases e : lt b c with
  | true => exact lt_trans h e
  | false => rw [← lt_total e g]; exact h
theorem le_lt {a b c : ByteArray} (h : lt b a = false) (g : lt b c = true) : lt a c = true := by
  cases e : lt a b with
  | true => exact lt_trans e g
  | false => rw [lt_total e h]; exact g
theorem tri (a b : ByteArray) :
    (bytesLess a.toList b.toList = true ∧ bytesLess b.toList a.toList = false ∧ (a.toList == b.toList) = false) ∨
    (bytesLess a.toList b.toList = false ∧ bytesLess b.toList a.toList = false ∧ (a.toList == b.toList) = true) ∨
    (bytesLess a.toList b.toList = false ∧ bytesLess b.toList a.toList = true ∧ (a.toList == b.toList) = false) := by
  have ne : ∀ {a b : ByteArray}, bytesLess a.toList b.toList = true → (a.toList == b.toList) = false := fun {a b} h => by
    rw [beq_eq_false_iff_ne]
    intro e
    rw [e, less_irr] at h
    cases h
  have ne2 : ∀ {a b : ByteArray}, bytesLess a.toList b.toList = true → (b.toList == a.toList) = false := fun {a b} h => by
    rw [beq_eq_false_iff_ne]
    intro e
    rw [e, less_irr] at h
    cases h
  cases h1 : bytesLess a.toList b.toList with
  | true => exact .inl ⟨rfl, less_asym _ _ h1, ne h1⟩
  | false =>
    cases h2 : bytesLess b.toList a.toList with
    | true => exact .inr (.inr ⟨rfl, rfl, ne2 h2⟩)
    | false => exact .inr (.inl ⟨rfl, rfl, by rw [beq_iff_eq]; exact less_total _ _ h1 h2⟩)

structure Kp where
  lo : ByteArray
  hi : ByteArray
  all : Bool
def Kp.v (s : Kp) : Value := .agg #[.string s.lo, .string s.hi, .bool s.all]
def no : ByteArray := ⟨#[]⟩
def Kp.has (s : Kp) (k : ByteArray) : Bool := !lt k s.lo && (s.all || lt k s.hi)
def Kp.empty (s : Kp) : Bool := !s.all && !lt s.lo s.hi
theorem lt_no (k : ByteArray) : lt k no = false := by
  unfold lt no
  rw [show (⟨#[]⟩ : ByteArray).toList = [] by rw [ByteArray.toList_eq]]
  cases k.toList <;> rfl
theorem empty_has (s : Kp) : (!s.has s.lo) = s.empty := by
  unfold Kp.has Kp.empty
  rw [lt_irr]
  cases s.all <;> simp
/-- Of spans that join, both good: a text lies in the whole just if it lies in one of both, and never in both. -/
theorem has_any (s : Kp) (k : ByteArray) (w : World) : Calls Tryd.prog 79 #[s.v, .string k] w fun e w' => e = .returned (.bool (s.has k)) ∧ Below w.heap.size w w' := by
  obtain ⟨lo, hi, all⟩ := s
  simp only [Kp.v]
  have B := (Below.refl w.heap.size w).alloc (Nat.le_refl _) (.cells #[.string lo, .string hi, .bool all] 49)
  have e : (⟨lo, hi, all⟩ : Kp).has k = (!bytesLess k.toList lo.toList && (all || bytesLess k.toList hi.toList)) := rfl
  rw [e]
  clear e
  rcases tri lo k with ⟨h1, h2, h3⟩ | ⟨h1, h2, h3⟩ | ⟨h1, h2, h3⟩
  · rw [h2]
    cases all
    · go_enter Tryd.func79, Tryd.ntmps79
      go_wp2
      go_ret
      exact ⟨rfl, B⟩
    · go_enter Tryd.func79, Tryd.ntmps79
      go_wp2
      go_ret
      exact ⟨rfl, B⟩
  · rw [h2]
    cases all
    · go_enter Tryd.func79, Tryd.ntmps79
      go_wp2
      go_ret
      exact ⟨rfl, B⟩
    · go_enter Tryd.func79, Tryd.ntmps79
      go_wp2
      go_ret
      exact ⟨rfl, B⟩
  · rw [h2]
    go_enter Tryd.func79, Tryd.ntmps79
    go_wp2
    go_ret
    exact ⟨rfl, B⟩

theorem empty_any (s : Kp) (w : World) : Calls Tryd.prog 63 #[s.v] w fun e w' => e = .returned (.bool s.empty) ∧ Below w.heap.size w w' := by
  have HE := Lib.hid (empty_has s)
  have hh := has_any s s.lo (w.alloc (.cells #[.string s.lo, .string s.hi, .bool s.all] 49))
  have HB := Lib.hid ((Below.refl w.heap.size w).alloc (Nat.le_refl _) (.cells #[.string s.lo, .string s.hi, .bool s.all] 49))
  obtain ⟨lo, hi, all⟩ := s
  simp only [Kp.v] at *
  go_enter Tryd.func63, Tryd.ntmps63
  go_wp2_with fail
  refine hh.mono ?_
  rintro e w1 ⟨rfl, hb⟩
  have HB2 := Lib.hid (HB.out.trans (hb.mono HB.out.size))
  clear hh hb HB
  go_wp2
  go_ret
  exact ⟨ret_bool HE.out, HB2.out⟩
/-- Texts that don't fall. -/
theorem sorted_up (ks : List ByteArray) : ∃ ss : List ByteArray, ss.length = ks.length ∧ (∀ x, x ∈ ss ↔ x ∈ ks) ∧ ss.Pairwise (fun a b => lt b a = false) ∧ ((ks.map (·.data.toList)).mergeSort fun x y => decide (x ≤ y)) = ss.map (·.data.toList) := by
  obtain ⟨l, hl⟩ : ∃ l, l = (ks.map (·.data.toList)).mergeSort fun x y => decide (x ≤ y) := ⟨_, rfl⟩
  have hp : l.Perm (ks.map (·.data.toList)) := by rw [hl]; exact List.mergeSort_perm _ _
  have hs : l.Pairwise (fun a b => decide (a ≤ b) = true) := by
    rw [hl]
    refine List.pairwise_mergeSort (fun a b c h1 h2 => ?_) (fun a b => ?_) _
    · simp only [decide_eq_true_eq] at *
      exact List.le_trans h1 h2
    · simp only [Bool.or_eq_true, decide_eq_true_eq]
      exact List.le_total a b
  refine ⟨l.map fun x => ⟨⟨x⟩⟩, by rw [List.length_map, hp.length_eq, List.length_map], fun x => ?_, ?_, ?_⟩
  · rw [List.mem_map]
    constructor
    · rintro ⟨y, hy, rfl⟩
      obtain ⟨z, hz, e⟩ := List.mem_map.1 (hp.mem_iff.1 hy)
      subst e
      exact hz
    · intro hx
      exact ⟨x.data.toList, hp.mem_iff.2 (List.mem_map.2 ⟨x, hx, rfl⟩), rfl⟩
  · rw [List.pairwise_map]
    refine hs.imp fun {a b} h => ?_
    show bytesLess _ _ = false
    rw [ByteArray.toList_eq, ByteArray.toList_eq, Go.Proofs.bytesLess_eq]
    simp only [decide_eq_true_eq] at h
    exact decide_eq_false (List.not_lt.2 h)
  · rw [← hl, List.map_map]
    exact (List.map_id' l).symm
end Go.Proofs.YtibimnibmengpaaDoor
