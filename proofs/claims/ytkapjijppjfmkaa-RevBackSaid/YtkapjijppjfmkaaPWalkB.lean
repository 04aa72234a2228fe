/- What hash.Of and the reference's Add and End answer of any word and any text. Condition: words are less than 4294967296, texts have at most 1000000 bytes. -/
import Derived.Test.YtkapjijppjfmkaaPWalkA
namespace Go.Proofs.Ytkapjijppjfmkaa
open Go.RowKit Go.Op
set_option maxRecDepth 100000

def sum (s : ByteArray) : Nat := fin (word 0 s.data.toList)
theorem hashof_any (s : ByteArray) (hs : s.size ≤ 1000000) (w : World) : Calls Try.prog 64 #[.string s] w fun e w' => e = .returned (.int .u32 (sum s : Nat)) ∧ w = w' := by
  have ha := fun w => add_any 0 (by decide) s hs w
  have he := fun w => end_any (word 0 s.data.toList) w
  go_enter Try.func64, Try.ntmps64
  go_wp2_with fail
  refine (ha _).mono ?_
  rintro e w1 ⟨rfl, rfl⟩
  go_wp2_with fail
  refine (he _).mono ?_
  rintro e w1 ⟨rfl, rfl⟩
  go_wp2
  go_ret
  exact ⟨rfl, rfl⟩
theorem fin_is (n : Nat) : fin n = turned (n * 9 % 4294967296) 2048 * 32769 % 4294967296 := by unfold fin; exact Eq.refl _
theorem tmod_nat (a m : Nat) : ((a : Int)).tmod (m : Int) = ((a % m : Nat) : Int) := by rw [Int.tmod_eq_emod_of_nonneg (Int.natCast_nonneg _), Int.natCast_emod]
theorem refstp_walk (n b : Nat) (hn : n < 4294967296) (hb : b < 256) : (IntKind.u64.wrap ((IntKind.u64.wrap ((n : Int) + IntKind.u64.wrap (b : Int))).tmod 4294967296 * 1025)).tmod 4294967296 = (((n + b) % 4294967296 * 1025 % 4294967296 : Nat) : Int) := by
  have h := Nat.mod_lt (n + b) (show 0 < 4294967296 by decide)
  rw [IntWalk.u64_in (b : Int) ⟨by omega, by omega⟩, IntWalk.u64_in ((n : Int) + (b : Int)) ⟨by omega, by omega⟩, ← Int.natCast_add, show (4294967296 : Int) = ((4294967296 : Nat) : Int) from rfl, tmod_nat]
  generalize (n + b) % 4294967296 = q at h ⊢
  rw [show (1025 : Int) = ((1025 : Nat) : Int) from rfl, ← Int.natCast_mul, IntWalk.u64_in ((q * 1025 : Nat) : Int) ⟨by omega, by omega⟩, tmod_nat]
theorem refnine_walk (q : Nat) : (q : Int) * 9 % 4294967296 = ((q * 9 % 4294967296 : Nat) : Int) := by omega
theorem reffin_walk (q : Nat) : (q : Int) * 32769 % 4294967296 = ((q * 32769 % 4294967296 : Nat) : Int) := by omega
theorem stp_is (n b : Nat) : stp n b = turned ((n + b) % 4294967296 * 1025 % 4294967296) 64 := by unfold stp; exact Eq.refl _
theorem refend_any (n : Nat) (hn : n < 4294967296) (w : World) : Calls Try.prog 61 #[.int .u32 (n : Int)] w fun e w' => e = .returned (.int .u32 (fin n : Nat)) ∧ w = w' := by
  obtain ⟨p, ep⟩ : ∃ p, p = n * 9 % 4294967296 := ⟨_, rfl⟩
  have hp : p < 4294967296 := by rw [ep]; exact Nat.mod_lt _ (by decide)
  have HP := Lib.hid (refnine_walk n)
  have HF := Lib.hid (fin_is n)
  rw [← ep] at HP HF
  have ht := fun w => turn_any p 2048 (by omega) (by decide) (by decide) w
  obtain ⟨q, eq⟩ : ∃ q, q = turned p 2048 := ⟨_, rfl⟩
  have hq : q < 4294967296 := by rw [eq]; exact turned_lt hp
  rw [← eq] at HF ht
  have HQ := Lib.hid (reffin_walk q)
  clear ep eq
  go_enter Try.func61, Try.ntmps61
  go_wp2_with fail
  rw [HP.out]
  refine (ht _).mono ?_
  rintro e w1 ⟨rfl, rfl⟩
  go_wp2
  go_ret
  exact ⟨ret_u32 (by rw [HQ.out, HF.out]), rfl⟩
set_option maxHeartbeats 2000000 in
theorem refadd_any (n : Nat) (hn : n < 4294967296) (s : ByteArray) (hs : s.size ≤ 1000000) (w : World) : Calls Try.prog 62 #[.int .u32 (n : Int), .string s] w fun e w' => e = .returned (.int .u32 (word n s.data.toList : Nat)) ∧ w = w' := by
  go_enter Try.func62, Try.ntmps62
  go_wp2
  go_loop [5, 6] (fun nv iv => ∃ k : Nat, k ≤ s.size ∧ iv = .int .i64 k ∧ nv = .int .u64 (word n (s.data.toList.take k) : Nat)) (fun _ iv => s.size - (intOf iv).toNat)
  case atStart => exact ⟨0, by omega, rfl, rfl⟩
  case round =>
    obtain ⟨k, hk, rfl, rfl⟩ := hrel
    have hx := word_lt hn (s.data.toList.take k)
    by_cases h1 : k < s.size
    · have i1 : (k : Int) < (s.size : Int) := by omega
      have HN := Lib.hid (word_at n h1)
      have HS := Lib.hid (stp_is (word n (s.data.toList.take k)) (s[k]'h1).toNat)
      have HP := Lib.hid (refstp_walk (word n (s.data.toList.take k)) (s[k]'h1).toNat hx (s[k]'h1).toNat_lt)
      obtain ⟨p, ep⟩ : ∃ p, p = (word n (s.data.toList.take k) + (s[k]'h1).toNat) % 4294967296 * 1025 % 4294967296 := ⟨_, rfl⟩
      have hp : p < 4294967296 := by rw [ep]; exact Nat.mod_lt _ (by decide)
      rw [← ep] at HS HP
      clear ep
      have ht := fun w => turn_any p 64 (by omega) (by decide) (by decide) w
      go_wp2_with fail
      rw [HP.out]
      refine (ht _).mono ?_
      rintro e w1 ⟨rfl, rfl⟩
      go_wp2
      go_round
      case rel => exact ⟨k + 1, by omega, by go_num, by rw [HN.out, HS.out]⟩
      case measure => simp [intOf]; omega
    · have i1 : ¬ (k : Int) < (s.size : Int) := by omega
      have HN := Lib.hid (word_all (s := s) (k := k) n (by omega))
      go_wp2
      go_ret
      exact ⟨ret_u32 (by rw [HN.out]), rfl⟩
end Go.Proofs.Ytkapjijppjfmkaa
