/- What escaped, and the reference's number, answer of any text, any byte. Condition: the text has at most 2000 bytes. -/
import Derived.Test.YtponiboiijgllaaDoorRWalkK
import Derived.WalkSmall
import Derived.Test.YtponiboiijgllaaDoorRMathF
namespace Go.Proofs.YtponiboiijgllaaDoor
open Go.RowKit
set_option maxRecDepth 100000

set_option maxHeartbeats 1000000 in
theorem number_any (c : UInt8) (w : World) : Calls Tryd.prog 86 #[.int .u8 c.toNat] w fun e w' => e = .returned (.int .u8 (hexv c)) ∧ w' = w := by
  have hu := u8_lt c
  have H : Hid (hexv c = if 48 ≤ c.toNat ∧ c.toNat ≤ 57 then c.toNat - 48 else if 97 ≤ c.toNat ∧ c.toNat ≤ 102 then c.toNat - 87 else 16) := rfl
  go_enter Tryd.func86, Tryd.ntmps86
  go_wp2
  all_goals
    go_ret
    refine ⟨ret_int ?_, rfl⟩
    rw [H.out]
    repeat' split
    all_goals omega

/-- Where a digit stands among the digits; -1: it is none. -/
def hexi (c : UInt8) : Int := if hexv c < 16 then hexv c else -1
theorem index_any (c : UInt8) (w : World) : Calls Tryd.prog 96 #[.string ⟨#[48, 49, 50, 51, 52, 53, 54, 55, 56, 57, 97, 98, 99, 100, 101, 102]⟩, .int .u8 c.toNat] w fun e w' => e = .returned (.int .i64 (hexi c)) ∧ w' = w := by
  refine (Tryd.strings_IndexByte _ _ _).mono ?_
  rintro e w' ⟨rfl, rfl⟩
  refine ⟨ret_int ?_, rfl⟩
  have := hex_index c
  unfold hexi
  rw [← this]
  simp [hexl]

/-- What escaped answers. -/
def escV (l : List UInt8) : Value := match esc l with | some (x, n) => .tuple #[.int .u8 x.toNat, .int .i64 n] | none => .tuple #[.int .u8 0, .int .i64 0]
theorem escV_some {l : List UInt8} {x : UInt8} {n : Nat} (h : esc l = some (x, n)) : escV l = .tuple #[.int .u8 x.toNat, .int .i64 n] := by rw [escV, h]
theorem escV_none {l : List UInt8} (h : esc l = none) : escV l = .tuple #[.int .u8 0, .int .i64 0] := by rw [escV, h]

set_option maxHeartbeats 1000000 in
theorem escaped_nil (w : World) : Calls Tryd.prog 83 #[.string ⟨#[]⟩] w fun e w' => e = .returned (.tuple #[.int .u8 0, .int .i64 0]) ∧ w = w' := by
  go_enter Tryd.func83, Tryd.ntmps83
  go_wp2
  go_ret2
  exact ⟨rfl, rfl⟩
theorem not_empty {s : ByteArray} (h0 : 0 < s.size) : s.toList.isEmpty = false := by
  rw [Lib.toList_data]
  cases h : s.data.toList with
  | nil =>
    have := len_data s
    rw [h] at this
    simp at this
    omega
  | cons a t => rfl
set_option maxHeartbeats 1000000 in
theorem escaped_same (s : ByteArray) (w : World) (_hs : s.size ≤ 1000000) (h0 : 0 < s.size) (hc : (s[0]'h0).toNat = 34 ∨ (s[0]'h0).toNat = 92) :
    Calls Tryd.prog 83 #[.string s] w fun e w' => e = .returned (.tuple #[.int .u8 (s[0]'h0).toNat, .int .i64 1]) ∧ w = w' := by
  have hne := not_empty h0
  have hc2 : ((((s[0]'h0).toNat : Int) == 34) = true) ∨ ((((s[0]'h0).toNat : Int) == 34) = false ∧ (((s[0]'h0).toNat : Int) == 92) = true) := by
    rcases hc with h | h
    · exact .inl (by simp; omega)
    · exact .inr ⟨by simp; omega, by simp; omega⟩
  clear hc
  rcases hc2 with t34 | ⟨t34, t92⟩
  all_goals
    go_enter Tryd.func83, Tryd.ntmps83
    go_wp2
    go_ret2
    exact ⟨rfl, rfl⟩
set_option maxHeartbeats 1000000 in
theorem escaped_no (s : ByteArray) (w : World) (_hs : s.size ≤ 1000000) (h0 : 0 < s.size) (h1 : (s[0]'h0).toNat ≠ 34) (h2 : (s[0]'h0).toNat ≠ 92) (hc : (s[0]'h0).toNat ≠ 120 ∨ ((s[0]'h0).toNat = 120 ∧ s.size < 3)) :
    Calls Tryd.prog 83 #[.string s] w fun e w' => e = .returned (.tuple #[.int .u8 0, .int .i64 0]) ∧ w = w' := by
  have hne := not_empty h0
  have t34 : (((s[0]'h0).toNat : Int) == 34) = false := by simp; omega
  have t92 : (((s[0]'h0).toNat : Int) == 92) = false := by simp; omega
  have hc2 : ((((s[0]'h0).toNat : Int) != 120) = true) ∨ ((((s[0]'h0).toNat : Int) != 120) = false ∧ s.size < 3) := by
    rcases hc with h | ⟨h, h'⟩
    · exact .inl (by simp; omega)
    · exact .inr ⟨by simp; omega, h'⟩
  clear hc h1 h2
  rcases hc2 with t120 | ⟨t120, h3⟩
  all_goals
    go_enter Tryd.func83, Tryd.ntmps83
    go_wp2
    go_ret2
    exact ⟨rfl, rfl⟩
theorem hexi_yes {c : UInt8} (h : hexv c < 16) : hexi c = hexv c := if_pos h
theorem hexi_not {c : UInt8} (h : ¬ hexv c < 16) : hexi c = -1 := if_neg h
theorem hexi_bd (c : UInt8) : -1 ≤ hexi c ∧ hexi c < 16 := by
  unfold hexi
  split <;> omega
set_option maxHeartbeats 1000000 in
theorem escaped_x (s : ByteArray) (w : World) (hs : s.size ≤ 1000000) (h3 : 3 ≤ s.size) (hc : (s[0]'(by omega)).toNat = 120) :
    Calls Tryd.prog 83 #[.string s] w fun e w' => (e = .returned (if hexv (s[1]'(by omega)) < 16 ∧ hexv (s[2]'(by omega)) < 16 then .tuple #[.int .u8 (16 * hexv (s[1]'(by omega)) + hexv (s[2]'(by omega)) : Nat), .int .i64 3] else .tuple #[.int .u8 0, .int .i64 0])) ∧ Below w.heap.size w w' := by
  have h0 : 0 < s.size := by omega
  have hne := not_empty h0
  have t34 : (((s[0]'h0).toNat : Int) == 34) = false := by simp; omega
  have t92 : (((s[0]'h0).toNat : Int) == 92) = false := by simp; omega
  have t120 : (((s[0]'h0).toNat : Int) != 120) = false := by simp; omega
  clear hc
  have i1 : (1 : Int) < (s.size : Int) := by omega
  have i2 : (2 : Int) < (s.size : Int) := by omega
  have j1 : 1 < s.size := by omega
  have j2 : 2 < s.size := by omega
  have ba := hexi_bd (s[1]'j1)
  have bb := hexi_bd (s[2]'j2)
  by_cases hA : hexv (s[1]'j1) < 16 ∧ hexv (s[2]'j2) < 16
  · have EA := Lib.hid (hexi_yes hA.1)
    have EB := Lib.hid (hexi_yes hA.2)
    have na : 0 ≤ hexi (s[1]'j1) := by rw [EA.out]; omega
    have nb : 0 ≤ hexi (s[2]'j2) := by rw [EB.out]; omega
    rw [if_pos hA]
    clear hA
    go_enter Tryd.func83, Tryd.ntmps83
    go_wp2
    go_quiet ((first | (go_at_call 96; exact Calls.quiet_of_same (index_any (s[1]'j1) _)) | (go_at_call 96; exact Calls.quiet_of_same (index_any (s[2]'j2) _))))
    go_wp2
    go_ret2
    refine ⟨?_, drewN_ok (Below.refl _ _) _⟩
    show Ending.returned (.tuple #[.int .u8 (16 * hexi (s[1]'j1) + hexi (s[2]'j2)), .int .i64 3]) = _
    have e : 16 * hexi (s[1]'j1) + hexi (s[2]'j2) = ((16 * hexv (s[1]'j1) + hexv (s[2]'j2) : Nat) : Int) := by
      rw [EA.out, EB.out]
      omega
    rw [e]
  · rw [if_neg hA]
    have hno : hexi (s[1]'j1) < 0 ∨ (0 ≤ hexi (s[1]'j1) ∧ hexi (s[2]'j2) < 0) := by
      by_cases h1 : hexv (s[1]'j1) < 16
      · have h2 : ¬ hexv (s[2]'j2) < 16 := fun h => hA ⟨h1, h⟩
        rw [hexi_yes h1, hexi_not h2]
        exact .inr ⟨by omega, by omega⟩
      · rw [hexi_not h1]
        exact .inl (by omega)
    clear hA
    rcases hno with na | ⟨na, nb⟩
    all_goals
      go_enter Tryd.func83, Tryd.ntmps83
      go_wp2
      go_quiet ((first | (go_at_call 96; exact Calls.quiet_of_same (index_any (s[1]'j1) _)) | (go_at_call 96; exact Calls.quiet_of_same (index_any (s[2]'j2) _))))
      go_wp2
      go_ret2
      exact ⟨rfl, drewN_ok (Below.refl _ _) _⟩

/-- What escaped answers of any text. -/
theorem escaped_any (s : ByteArray) (w : World) (hs : s.size ≤ 1000000) :
    Calls Tryd.prog 83 #[.string s] w fun e w' => e = .returned (escV s.data.toList) ∧ Below w.heap.size w w' := by
  by_cases h0 : 0 < s.size
  · have hl : s.data.toList = (s[0]'h0) :: s.data.toList.drop 1 := by
      have := List.drop_eq_getElem_cons (l := s.data.toList) (i := 0) (by simpa using h0)
      rw [List.drop_zero] at this
      exact this
    have u8eq : ∀ (c : UInt8) (n : Nat), n < 256 → (c = UInt8.ofNat n ↔ c.toNat = n) := by
      intro c n hn
      rw [← UInt8.toNat_inj]
      simp
      omega
    by_cases hc : (s[0]'h0).toNat = 34 ∨ (s[0]'h0).toNat = 92
    · refine (escaped_same s w hs h0 hc).mono ?_
      rintro e w' ⟨rfl, rfl⟩
      refine ⟨?_, Below.refl _ _⟩
      have : esc s.data.toList = some (s[0]'h0, 1) := by
        rw [hl, esc_cons, if_pos]
        rcases hc with h | h
        · exact .inl ((u8eq _ 34 (by omega)).2 h)
        · exact .inr ((u8eq _ 92 (by omega)).2 h)
      rw [escV_some this]
      rfl
    · have hn : ¬ ((s[0]'h0) = 34 ∨ (s[0]'h0) = 92) := by
        rintro (h | h)
        · exact hc (.inl ((u8eq _ 34 (by omega)).1 h))
        · exact hc (.inr ((u8eq _ 92 (by omega)).1 h))
      by_cases hx : (s[0]'h0).toNat = 120 ∧ 3 ≤ s.size
      · refine (escaped_x s w hs hx.2 hx.1).mono ?_
        rintro e w' ⟨rfl, hb⟩
        refine ⟨?_, hb⟩
        have hl2 : s.data.toList = (s[0]'h0) :: (s[1]'(by omega)) :: (s[2]'(by omega)) :: s.data.toList.drop 3 := by
          have h1 := List.drop_eq_getElem_cons (l := s.data.toList) (i := 1) (by simp; omega)
          have h2 := List.drop_eq_getElem_cons (l := s.data.toList) (i := 2) (by simp; omega)
          rw [hl, h1, h2]
          simp
          exact ⟨rfl, rfl⟩
        have he : esc s.data.toList = if hexv (s[1]'(by omega)) < 16 ∧ hexv (s[2]'(by omega)) < 16 then some (UInt8.ofNat (16 * hexv (s[1]'(by omega)) + hexv (s[2]'(by omega))), 3) else none := by
          rw [hl2, esc_cons, if_neg hn, if_neg (by simp; exact (u8eq _ 120 (by omega)).2 hx.1)]
        by_cases hA : hexv (s[1]'(by omega)) < 16 ∧ hexv (s[2]'(by omega)) < 16
        · rw [if_pos hA] at he ⊢
          rw [escV_some he]
          have : (UInt8.ofNat (16 * hexv (s[1]'(by omega)) + hexv (s[2]'(by omega)))).toNat = 16 * hexv (s[1]'(by omega)) + hexv (s[2]'(by omega)) := by
            simp
            omega
          rw [this]
          rfl
        · rw [if_neg hA] at he ⊢
          rw [escV_none he]
      · refine (escaped_no s w hs h0 (fun h => hc (.inl h)) (fun h => hc (.inr h)) (by omega)).mono ?_
        rintro e w' ⟨rfl, rfl⟩
        refine ⟨?_, Below.refl _ _⟩
        have : esc s.data.toList = none := by
          rw [hl, esc_cons, if_neg hn]
          by_cases h : (s[0]'h0).toNat = 120
          · rw [if_neg (by simp; exact (u8eq _ 120 (by omega)).2 h)]
            have hlen : (s.data.toList.drop 1).length < 2 := by simp; omega
            revert hlen
            generalize s.data.toList.drop 1 = t
            intro hlen
            rcases t with _ | ⟨a, _ | ⟨b, t⟩⟩
            · rfl
            · rfl
            · simp at hlen
              omega
          · rw [if_pos (show (s[0]'h0) ≠ 120 from fun k => h ((u8eq _ 120 (by omega)).1 k))]
        rw [escV_none this]
  · have : s = ⟨#[]⟩ := by
      have := len_data s
      exact text_of (l := []) (List.eq_nil_of_length_eq_zero (by omega))
    subst this
    refine (escaped_nil w).mono ?_
    rintro e w' ⟨rfl, rfl⟩
    exact ⟨rfl, Below.refl _ _⟩
end Go.Proofs.YtponiboiijgllaaDoor
