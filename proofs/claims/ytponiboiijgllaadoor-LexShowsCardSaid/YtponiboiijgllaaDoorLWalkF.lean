/- What the reference's Name and end answer of any text. Condition: the text has at most 1000000 bytes. -/
import Derived.Test.YtponiboiijgllaaDoorLWalkD
namespace Go.Proofs.YtponiboiijgllaaDoor
open Go.RowKit
set_option maxRecDepth 100000

set_option maxHeartbeats 4000000 in
theorem refName_any (s : ByteArray) (w : World) (hs : s.size ≤ 1000000) :
    Calls Tryd.prog 14 #[.string s] w fun e w' => e = .returned (.bool (nameL s.data.toList)) ∧ w = w' := by
  have HL : Hid (nameL s.data.toList = (decide (1 ≤ s.size ∧ s.size ≤ 20) && nameFrom 0 s.data.toList)) := Lib.hid (by unfold nameL; rw [len_data])
  go_enter Tryd.func14, Tryd.ntmps14
  go_wp2
  go_loop [3] (fun iv => ∃ k : Nat, k ≤ s.size ∧ iv = .int .i64 k ∧ Hid (nameFrom k (s.data.toList.drop k) = nameFrom 0 s.data.toList)) (fun iv => s.size - (intOf iv).toNat)
  case atStart => exact ⟨0, by omega, rfl, rfl⟩
  case round =>
    obtain ⟨k, hk, rfl, H⟩ := hrel
    by_cases hp : k < s.size
    · have hi : (k : Int) < (s.size : Int) := by omega
      have HS := Lib.hid (name_step hp)
      by_cases hl : isLet (s[k]'hp) = true
      · have HN : Hid (nameFrom (k + 1) (s.data.toList.drop (k + 1)) = nameFrom 0 s.data.toList) := Lib.hid (by
          rw [← H.out, HS.out]
          unfold okAt
          rw [hl]
          simp)
        have g0 : 97 ≤ (s[k]'hp).toNat ∧ (s[k]'hp).toNat ≤ 122 := by simpa only [isLet, decide_eq_true_iff] using hl
        have g1 : (97 : Int) ≤ ((s[k]'hp).toNat : Int) := by omega
        have g2 : ((s[k]'hp).toNat : Int) ≤ 122 := by omega
        clear hl g0
        go_wp2
        go_round
        case rel => exact ⟨k + 1, by omega, by go_num, HN⟩
        case measure => simp [intOf]; omega
      · have hlf : isLet (s[k]'hp) = false := by simpa using hl
        have g0 : ((s[k]'hp).toNat : Int) < 97 ∨ ((97 : Int) ≤ ((s[k]'hp).toNat : Int) ∧ (122 : Int) < ((s[k]'hp).toNat : Int)) := by
          simp only [isLet, decide_eq_true_iff] at hl
          omega
        by_cases hz : k = 0
        · have HN : Hid (nameL s.data.toList = false) := Lib.hid (by
            rw [HL.out, ← H.out, HS.out]
            unfold okAt
            rw [hlf, decide_eq_false (by omega : ¬ 0 < k)]
            simp)
          have hz1 : ¬ 0 < k := by omega
          have hz2 : (k : Int) ≤ 0 := by omega
          clear hl hlf hz
          rcases g0 with g1 | ⟨g1, g2⟩
          all_goals
            go_wp2
            go_ret
            exact ⟨ret_bool (by rw [HN.out]), rfl⟩
        · have hz1 : 0 < k := by omega
          have hz2 : (0 : Int) < (k : Int) := by omega
          by_cases hd : isDig (s[k]'hp) = true
          · have HN : Hid (nameFrom (k + 1) (s.data.toList.drop (k + 1)) = nameFrom 0 s.data.toList) := Lib.hid (by
              rw [← H.out, HS.out]
              unfold okAt
              rw [hlf, hd, decide_eq_true hz1]
              simp)
            have d0 : 48 ≤ (s[k]'hp).toNat ∧ (s[k]'hp).toNat ≤ 57 := by simpa only [isDig, decide_eq_true_iff] using hd
            have d1 : (48 : Int) ≤ ((s[k]'hp).toNat : Int) := by omega
            have d2 : ((s[k]'hp).toNat : Int) ≤ 57 := by omega
            have g1 : ((s[k]'hp).toNat : Int) < 97 := by omega
            clear hl hlf hz hd g0 d0
            go_wp2
            go_round
            case rel => exact ⟨k + 1, by omega, by go_num, HN⟩
            case measure => simp [intOf]; omega
          · have hdf : isDig (s[k]'hp) = false := by simpa using hd
            have HN : Hid (nameL s.data.toList = false) := Lib.hid (by
              rw [HL.out, ← H.out, HS.out]
              unfold okAt
              rw [hlf, hdf]
              simp)
            have d0 : (((s[k]'hp).toNat : Int) < 97 ∧ ((s[k]'hp).toNat : Int) < 48) ∨ (((s[k]'hp).toNat : Int) < 97 ∧ (48 : Int) ≤ ((s[k]'hp).toNat : Int) ∧ (57 : Int) < ((s[k]'hp).toNat : Int)) ∨ ((97 : Int) ≤ ((s[k]'hp).toNat : Int) ∧ (122 : Int) < ((s[k]'hp).toNat : Int) ∧ (48 : Int) ≤ ((s[k]'hp).toNat : Int) ∧ (57 : Int) < ((s[k]'hp).toNat : Int)) := by
              simp only [isDig, decide_eq_true_iff] at hd
              omega
            clear hl hlf hz hd hdf g0
            rcases d0 with ⟨d1, d2⟩ | ⟨d1, d2, d3⟩ | ⟨d1, d2, d3, d4⟩
            all_goals
              go_wp2
              go_ret
              exact ⟨ret_bool (by rw [HN.out]), rfl⟩
    · have hi : ¬ (k : Int) < (s.size : Int) := by omega
      have HN : Hid (nameFrom 0 s.data.toList = true) := Lib.hid (by rw [← H.out, List.drop_eq_nil_of_le (by rw [len_data]; omega)]; rfl)
      by_cases h1 : 1 ≤ s.size
      · have h1' : (1 : Int) ≤ (s.size : Int) := by omega
        by_cases h20 : s.size ≤ 20
        · have h20' : (s.size : Int) ≤ 20 := by omega
          have HR : Hid (nameL s.data.toList = true) := Lib.hid (by rw [HL.out, HN.out, decide_eq_true ⟨h1, h20⟩]; rfl)
          go_wp2
          go_ret
          exact ⟨ret_bool (by rw [HR.out]), rfl⟩
        · have h20' : ¬ (s.size : Int) ≤ 20 := by omega
          have HR : Hid (nameL s.data.toList = false) := Lib.hid (by rw [HL.out, HN.out, decide_eq_false (fun q : 1 ≤ s.size ∧ s.size ≤ 20 => h20 q.2)]; rfl)
          go_wp2
          go_ret
          exact ⟨ret_bool (by rw [HR.out]), rfl⟩
      · have h1' : ¬ (1 : Int) ≤ (s.size : Int) := by omega
        have HR : Hid (nameL s.data.toList = false) := Lib.hid (by rw [HL.out, HN.out, decide_eq_false (fun q : 1 ≤ s.size ∧ s.size ≤ 20 => h1 q.1)]; rfl)
        go_wp2
        go_ret
        exact ⟨ret_bool (by rw [HR.out]), rfl⟩

theorem nb_at {s : ByteArray} {k : Nat} (hp : k < s.size) : nb (s.data.toList.drop k) = if isBl (s[k]'hp) then 0 else nb (s.data.toList.drop (k + 1)) + 1 := by
  rw [drop_at hp, nb_cons]
/-- The reference's place behind a text that begins here. -/
def endE (l : List UInt8) (k at' : Nat) : Nat := match qlen false l with | some n => k + n | none => at'
theorem endE_nil (k a : Nat) : endE [] k a = a := rfl
theorem endE_quote {c : UInt8} (t : List UInt8) (hc : c.toNat = 34) (k a : Nat) : endE (c :: t) k a = k + 1 := by simp [endE, qlen_false, hc]
theorem endE_other {c : UInt8} (t : List UInt8) (h34 : c.toNat ≠ 34) (h92 : c.toNat ≠ 92) (k a : Nat) : endE (c :: t) k a = endE t (k + 1) a := by
  unfold endE
  rw [qlen_false, if_neg h34, if_neg h92]
  cases qlen false t <;> simp
  omega
theorem endE_back {c : UInt8} (t : List UInt8) (h92 : c.toNat = 92) (k a : Nat) : endE (c :: t) k a = endE (t.drop 1) (k + 2) a := by
  unfold endE
  rw [qlen_false, if_neg (by omega), if_pos h92]
  rcases t with _ | ⟨d, u⟩
  · rfl
  · rw [qlen_true, List.drop_succ_cons, List.drop_zero]
    cases qlen false u <;> simp
    omega
theorem rend_quote {s : ByteArray} {a : Nat} (hp : a < s.size) (h : (s[a]'hp).toNat = 34) : endE (s.data.toList.drop (a + 1)) (a + 1) a = a + rend (s.data.toList.drop a) := by
  rw [drop_at hp]
  simp only [rend, if_pos h, endE]
  cases qlen false (s.data.toList.drop (a + 1)) <;> simp
  omega
theorem rend_plain {s : ByteArray} {a : Nat} (hp : a < s.size) (h : (s[a]'hp).toNat ≠ 34) : rend (s.data.toList.drop a) = nb (s.data.toList.drop a) := by
  rw [drop_at hp]
  simp only [rend, if_neg h]

set_option maxHeartbeats 4000000 in
theorem refend_any (s : ByteArray) (a : Nat) (w : World) (hs : s.size ≤ 1000000) (ha : a < s.size) :
    Calls Tryd.prog 45 #[.string s, .int .i64 a] w fun e w' => e = .returned (.int .i64 (a + rend (s.data.toList.drop a) : Nat)) ∧ w = w' := by
  have ha' : (a : Int) < (s.size : Int) := by omega
  by_cases hq : (s[a]'ha).toNat = 34
  · have tq : (((s[a]'ha).toNat : Int) != 34) = false := by simp; omega
    have HR := Lib.hid (rend_quote ha hq)
    clear hq
    go_enter Tryd.func45, Tryd.ntmps45
    go_wp2
    go_loop [5] (fun iv => ∃ k : Nat, k ≤ s.size + 1 ∧ iv = .int .i64 k ∧ Hid (endE (s.data.toList.drop k) k a = a + rend (s.data.toList.drop a))) (fun iv => s.size + 1 - (intOf iv).toNat)
    case atStart => exact ⟨a + 1, by omega, by go_num, HR⟩
    case round =>
      obtain ⟨k, hk, rfl, H⟩ := hrel
      by_cases hp : k < s.size
      · have hi : (k : Int) < (s.size : Int) := by omega
        have HD := Lib.hid (drop_at hp)
        by_cases h34 : (s[k]'hp).toNat = 34
        · have t34 : (((s[k]'hp).toNat : Int) == 34) = true := by simp; omega
          have HE : Hid (a + rend (s.data.toList.drop a) = k + 1) := Lib.hid (by rw [← H.out, HD.out, endE_quote _ h34])
          clear h34
          go_wp2
          go_ret
          exact ⟨ret_int (by have := HE.out; omega), rfl⟩
        · have t34 : (((s[k]'hp).toNat : Int) == 34) = false := by simp; omega
          by_cases h92 : (s[k]'hp).toNat = 92
          · have t92 : (((s[k]'hp).toNat : Int) == 92) = true := by simp; omega
            have HE : Hid (endE (s.data.toList.drop (k + 2)) (k + 2) a = a + rend (s.data.toList.drop a)) := Lib.hid (by
              rw [← H.out, HD.out, endE_back _ h92, List.drop_drop])
            clear h34 h92
            go_wp2
            go_round
            case rel => exact ⟨k + 2, by omega, by go_num, HE⟩
            case measure => simp [intOf]; omega
          · have t92 : (((s[k]'hp).toNat : Int) == 92) = false := by simp; omega
            have HE : Hid (endE (s.data.toList.drop (k + 1)) (k + 1) a = a + rend (s.data.toList.drop a)) := Lib.hid (by
              rw [← H.out, HD.out, endE_other _ h34 h92])
            clear h34 h92
            go_wp2
            go_round
            case rel => exact ⟨k + 1, by omega, by go_num, HE⟩
            case measure => simp [intOf]; omega
      · have hi : ¬ (k : Int) < (s.size : Int) := by omega
        have HE : Hid (a + rend (s.data.toList.drop a) = a) := Lib.hid (by
          rw [← H.out, List.drop_eq_nil_of_le (by rw [len_data]; omega), endE_nil])
        go_wp2
        go_ret
        exact ⟨ret_int (by have := HE.out; omega), rfl⟩
  · have tq : (((s[a]'ha).toNat : Int) != 34) = true := by simp; omega
    have HR := Lib.hid (rend_plain ha hq)
    clear hq
    go_enter Tryd.func45, Tryd.ntmps45
    go_wp2
    go_loop [5] (fun iv => ∃ k : Nat, a ≤ k ∧ k ≤ s.size ∧ iv = .int .i64 k ∧ Hid (k + nb (s.data.toList.drop k) = a + nb (s.data.toList.drop a))) (fun iv => s.size - (intOf iv).toNat)
    case atStart => exact ⟨a, by omega, by omega, rfl, rfl⟩
    case round =>
      obtain ⟨k, hak, hk, rfl, H⟩ := hrel
      by_cases hp : k < s.size
      · have hi : (k : Int) < (s.size : Int) := by omega
        have HD := Lib.hid (nb_at hp)
        by_cases hb : isBl (s[k]'hp) = true
        · have HE : Hid (a + rend (s.data.toList.drop a) = k) := Lib.hid (by rw [HR.out, ← H.out, HD.out, if_pos hb]; rfl)
          go_wp2_with (go_at_call 44; refine (refblank_any _ _).mono ?_; rintro e w' ⟨rfl, rfl⟩)
          go_ret
          exact ⟨ret_int (by have := HE.out; omega), rfl⟩
        · have hb : isBl (s[k]'hp) = false := by simpa using hb
          have HE : Hid (k + 1 + nb (s.data.toList.drop (k + 1)) = a + nb (s.data.toList.drop a)) := Lib.hid (by
            rw [← H.out, HD.out, hb, if_neg (by simp)]
            omega)
          go_wp2_with (go_at_call 44; refine (refblank_any _ _).mono ?_; rintro e w' ⟨rfl, rfl⟩)
          go_round
          case rel => exact ⟨k + 1, by omega, by omega, by go_num, HE⟩
          case measure => simp [intOf]; omega
      · have hi : ¬ (k : Int) < (s.size : Int) := by omega
        have HE : Hid (a + rend (s.data.toList.drop a) = k) := Lib.hid (by
          have e : s.data.toList.drop k = [] := List.drop_eq_nil_of_le (by rw [len_data]; omega)
          rw [HR.out, ← H.out, e]
          rfl)
        go_wp2
        go_ret
        exact ⟨ret_int (by have := HE.out; omega), rfl⟩
end Go.Proofs.YtponiboiijgllaaDoor
