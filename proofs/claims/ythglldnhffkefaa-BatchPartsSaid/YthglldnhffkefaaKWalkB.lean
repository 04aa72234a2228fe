/- What Less of the reference answers of two texts, and whether a text lies in a span, as the reference has it. Condition: the texts have at most 1000000 bytes. -/
import Derived.Test.YthglldnhffkefaaKWalkA
import Derived.BigQuiet
namespace Go.Proofs.Ythglldnhffkefaa
open Go.RowKit Go.Op
set_option maxRecDepth 100000

theorem len_data (s : ByteArray) : s.data.toList.length = s.size := rfl
theorem drop_at {s : ByteArray} {k : Nat} (hk : k < s.size) : s.data.toList.drop k = (s[k]'hk) :: s.data.toList.drop (k + 1) := by
  rw [List.drop_eq_getElem_cons (by rw [len_data]; exact hk)]
  rfl
theorem less_same {a b : ByteArray} {k : Nat} (ha : k < a.size) (hb : k < b.size) (h : (a[k]'ha).toNat = (b[k]'hb).toNat) : bytesLess (a.data.toList.drop k) (b.data.toList.drop k) = bytesLess (a.data.toList.drop (k + 1)) (b.data.toList.drop (k + 1)) := by
  rw [drop_at ha, drop_at hb]
  have h0 := UInt8.toNat_inj.1 h
  rw [h0]
  have h2 : ¬ (b[k]'hb) < (b[k]'hb) := by rw [UInt8.lt_iff_toNat_lt]; omega
  simp [bytesLess, h2]
theorem less_part {a b : ByteArray} {k : Nat} (ha : k < a.size) (hb : k < b.size) (h : (a[k]'ha).toNat ≠ (b[k]'hb).toNat) : bytesLess (a.data.toList.drop k) (b.data.toList.drop k) = decide ((a[k]'ha).toNat < (b[k]'hb).toNat) := by
  rw [drop_at ha, drop_at hb]
  have h0 : ((a[k]'ha) == (b[k]'hb)) = false := by rw [beq_eq_false_iff_ne]; intro e; exact h (by rw [e])
  rw [bytesLess, h0, Bool.false_and, Bool.or_false]
  simp [UInt8.lt_iff_toNat_lt]
theorem less_end {a b : ByteArray} {k : Nat} (h : k ≤ a.size) (h2 : k ≤ b.size) (h3 : a.size ≤ k ∨ b.size ≤ k) : bytesLess (a.data.toList.drop k) (b.data.toList.drop k) = decide (a.size < b.size) := by
  rcases h3 with h3 | h3
  · rw [List.drop_eq_nil_of_le (by rw [len_data]; omega)]
    by_cases h4 : k < b.size
    · rw [drop_at h4, decide_eq_true (by omega)]
      rfl
    · rw [List.drop_eq_nil_of_le (by rw [len_data]; omega), decide_eq_false (by omega)]
      rfl
  · rw [show b.data.toList.drop k = [] from List.drop_eq_nil_of_le (by rw [len_data]; omega), decide_eq_false (by omega)]
    cases a.data.toList.drop k <;> rfl
theorem lt_data (a b : ByteArray) : lt a b = bytesLess a.data.toList b.data.toList := by
  unfold lt
  rw [ByteArray.toList_eq, ByteArray.toList_eq]
theorem below_drewN {B : Nat} {a w : World} (h : Below B a w) (n : Nat) : Below B a (w.drewN n) := h.trans ⟨rfl, rfl, rfl, Nat.le_refl _, fun _ _ => rfl⟩

set_option maxHeartbeats 2000000 in
theorem less_any (a b : ByteArray) (ha : a.size ≤ 1000000) (hb : b.size ≤ 1000000) (w : World) : Calls Try.prog 29 #[.string a, .string b] w fun e w' => e = .returned (.bool (lt a b)) ∧ Below w.heap.size w w' := by
  have HR := Lib.hid (lt_data a b)
  go_enter Try.func29, Try.ntmps29
  go_wp2
  go_loopw [5] (fun i wr => ∃ k : Nat, k ≤ a.size ∧ k ≤ b.size ∧ i = .int .i64 k ∧ Hid (bytesLess (a.data.toList.drop k) (b.data.toList.drop k) = bytesLess a.data.toList b.data.toList) ∧ Below w.heap.size w wr) (fun i _ => a.size - (intOf i).toNat)
  case atStart => exact ⟨0, by omega, by omega, rfl, Lib.hid rfl, Below.refl _ _⟩
  case round =>
    obtain ⟨k, hka, hkb, rfl, H, hB⟩ := hrel
    by_cases h1 : k < a.size
    · have i1 : (k : Int) < (a.size : Int) := by omega
      by_cases h2 : k < b.size
      · have i2 : (k : Int) < (b.size : Int) := by omega
        by_cases h3 : (a[k]'h1).toNat = (b[k]'h2).toNat
        · have HN := Lib.hid (less_same h1 h2 h3)
          obtain ⟨x, hx⟩ : ∃ x, x = (a[k]'h1).toNat := ⟨_, rfl⟩
          obtain ⟨y, hy⟩ : ∃ y, y = (b[k]'h2).toNat := ⟨_, rfl⟩
          have t : ((x : Int) != (y : Int)) = false := by rw [hx, hy, h3]; simp
          go_wp2
          go_quiet (fail)
          go_wp2
          go_roundw
          case rel => exact ⟨k + 1, by omega, by omega, by go_num, Lib.hid (by rw [← HN.out, H.out]), below_drewN hB _⟩
          case measure => simp [intOf]; omega
        · have HN := Lib.hid (less_part h1 h2 h3)
          have t : (((a[k]'h1).toNat : Int) != ((b[k]'h2).toNat : Int)) = true := by rw [bne_iff_ne]; intro e; exact h3 (by omega)
          have HG := Lib.hid h3
          clear h3
          go_wp2
          go_quiet (fail)
          go_wp2
          go_quiet (fail)
          go_wp2
          go_ret
          exact ⟨ret_bool (by rw [HR.out, ← H.out, HN.out]), below_drewN (below_drewN hB _) _⟩
      · have i2 : ¬ (k : Int) < (b.size : Int) := by omega
        have HN := Lib.hid (less_end hka hkb (.inr (Nat.not_lt.1 h2)))
        go_wp2
        go_ret
        exact ⟨ret_bool (by rw [HR.out, ← H.out, HN.out]), hB⟩
    · have i1 : ¬ (k : Int) < (a.size : Int) := by omega
      have HN := Lib.hid (less_end hka hkb (.inl (Nat.not_lt.1 h1)))
      go_wp2
      go_ret
      exact ⟨ret_bool (by rw [HR.out, ← H.out, HN.out]), hB⟩

set_option maxHeartbeats 2000000 in
theorem refhas_any (s : Sp) (k : ByteArray) (h1 : s.lo.size ≤ 1000000) (h2 : s.hi.size ≤ 1000000) (h3 : k.size ≤ 1000000) (w : World) : Calls Try.prog 32 #[s.v, .string k] w fun e w' => e = .returned (.bool (s.has k)) ∧ Below w.heap.size w w' := by
  obtain ⟨lo, hi, all⟩ := s
  simp only at h1 h2
  simp only [Sp.v]
  have e : (⟨lo, hi, all⟩ : Sp).has k = (!lt k lo && (all || lt k hi)) := rfl
  rw [e]
  clear e
  have B := (Below.refl w.heap.size w).alloc (Nat.le_refl _) (.cells #[.string lo, .string hi, .bool all] 40)
  cases g : lt k lo with
  | true =>
    have hl := less_any k lo h3 h1
    rw [g] at hl
    go_enter Try.func32, Try.ntmps32
    go_wp2_with fail
    refine (hl _).mono ?_
    rintro e w1 ⟨rfl, b1⟩
    go_wp2
    go_ret
    exact ⟨rfl, B.trans (b1.mono (by simp))⟩
  | false =>
    have hl := less_any k lo h3 h1
    rw [g] at hl
    cases all with
    | true =>
      go_enter Try.func32, Try.ntmps32
      go_wp2_with fail
      refine (hl _).mono ?_
      rintro e w1 ⟨rfl, b1⟩
      have c2 : w1.cell? ⟨w.heap.size, 2, none⟩ = some (.bool true) := keep b1 (by simp [go_sem]) (by simp)
      go_wp2
      go_ret
      exact ⟨rfl, B.trans (b1.mono (by simp))⟩
    | false =>
      go_enter Try.func32, Try.ntmps32
      go_wp2_with fail
      refine (hl _).mono ?_
      rintro e w1 ⟨rfl, b1⟩
      have c2 : w1.cell? ⟨w.heap.size, 2, none⟩ = some (.bool false) := keep b1 (by simp [go_sem]) (by simp)
      have c1 : w1.cell? ⟨w.heap.size, 1, none⟩ = some (.string hi) := keep b1 (by simp [go_sem]) (by simp)
      have hz := b1.size
      simp at hz
      go_wp2_with fail
      refine (less_any k hi h3 h2 _).mono ?_
      rintro e w2 ⟨rfl, b2⟩
      go_wp2
      go_ret
      exact ⟨rfl, (B.trans (b1.mono (by simp))).trans (b2.mono (by omega))⟩
end Go.Proofs.Ythglldnhffkefaa
