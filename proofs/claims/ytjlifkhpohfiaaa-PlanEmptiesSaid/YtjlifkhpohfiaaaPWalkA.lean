/- What hash.Add, End, Of and the reference's turn, Add, End answer of any word and any text. Condition: words are less than 4294967296. -/
import Derived.Test.YtjlifkhpohfiaaaPMath
import Derived.WalkSpells
import Derived.WalkLawsBesides
import Derived.Lib.Hide
import Derived.Lib.MinMaxS
import Derived.Below
import Derived.KernelRfl
import Derived.Laws.BitsAllLaws
namespace Go.Proofs.Ytjlifkhpohfiaaa
open Go.RowKit Go.Op
set_option maxRecDepth 100000

theorem ret_u32 {a b : Int} (h : a = b) : Ending.returned (.int .u32 a) = .returned (.int .u32 b) := by rw [h]
theorem ret_u64 {a b : Int} (h : a = b) : Ending.returned (.int .u64 a) = .returned (.int .u64 b) := by rw [h]
theorem turned32 (p k : Nat) (hp : p < 4294967296) : bits .xor .u32 (p : Int) ((p : Int) / (k : Int)) = (turned p k : Nat) := by
  rw [← Int.natCast_ediv, u32_xor_nat _ _ hp (Nat.lt_of_le_of_lt (Nat.div_le_self _ _) hp)]
  rfl
theorem turned64 (p k : Nat) (hp : p < 18446744073709551616) : bits .xor .u64 (p : Int) (IntKind.u64.wrap ((p : Int) / (k : Int))) = (turned p k : Nat) := by
  have h := Nat.lt_of_le_of_lt (Nat.div_le_self p k) hp
  rw [← Int.natCast_ediv, IntWalk.u64_in _ ⟨Int.natCast_nonneg _, by generalize p / k = q at h; omega⟩, u64_xor_nat _ _ hp h]
  rfl
theorem fin_walk (n : Nat) : (bits .xor .u32 (((n : Int) + (n : Int) * 8) % 4294967296) (((n : Int) + (n : Int) * 8) % 4294967296 / 2048) + bits .xor .u32 (((n : Int) + (n : Int) * 8) % 4294967296) (((n : Int) + (n : Int) * 8) % 4294967296 / 2048) * 32768 % 4294967296) % 4294967296 = (fin n : Nat) := by
  have e : ((n : Int) + (n : Int) * 8) % 4294967296 = ((n * 9 % 4294967296 : Nat) : Int) := by omega
  rw [e]
  have h := turned32 (n * 9 % 4294967296) 2048 (Nat.mod_lt _ (by decide))
  rw [show ((2048 : Int)) = ((2048 : Nat) : Int) from rfl, h]
  unfold fin
  generalize turned (n * 9 % 4294967296) 2048 = q
  omega
theorem stp_walk (n b : Nat) : bits .xor .u32 (((n : Int) + (b : Int) + ((n : Int) + (b : Int)) % 4294967296 * 1024) % 4294967296) (((n : Int) + (b : Int) + ((n : Int) + (b : Int)) % 4294967296 * 1024) % 4294967296 / 64) = (stp n b : Nat) := by
  have e : ((n : Int) + (b : Int) + ((n : Int) + (b : Int)) % 4294967296 * 1024) % 4294967296 = (((n + b) % 4294967296 * 1025 % 4294967296 : Nat) : Int) := by omega
  rw [e]
  exact turned32 _ 64 (Nat.mod_lt _ (by decide))
theorem len_data (s : ByteArray) : s.data.toList.length = s.size := rfl
theorem word_at {s : ByteArray} {k : Nat} (n : Nat) (hk : k < s.size) : word n (s.data.toList.take (k + 1)) = stp (word n (s.data.toList.take k)) (s[k]'hk).toNat := by
  rw [List.take_succ_eq_append_getElem (by rw [len_data]; exact hk), word_snoc]
  rfl
theorem word_all {s : ByteArray} {k : Nat} (n : Nat) (hk : s.size ≤ k) : word n (s.data.toList.take k) = word n s.data.toList := by
  rw [List.take_of_length_le (by rw [len_data]; exact hk)]

theorem end_any (n : Nat) (w : World) : Calls Try.prog 67 #[.int .u32 (n : Int)] w fun e w' => e = .returned (.int .u32 (fin n : Nat)) ∧ w = w' := by
  have HE := Lib.hid (fin_walk n)
  go_enter Try.func67, Try.ntmps67
  go_wp2
  go_ret
  exact ⟨ret_u32 HE.out, rfl⟩
set_option maxHeartbeats 2000000 in
theorem add_any (n : Nat) (hn : n < 4294967296) (s : ByteArray) (hs : s.size ≤ 1000000) (w : World) : Calls Try.prog 68 #[.int .u32 (n : Int), .string s] w fun e w' => e = .returned (.int .u32 (word n s.data.toList : Nat)) ∧ w = w' := by
  go_enter Try.func68, Try.ntmps68
  go_wp2
  go_loop [0, 8] (fun nv iv => ∃ k : Nat, k ≤ s.size ∧ iv = .int .i64 k ∧ nv = .int .u32 (word n (s.data.toList.take k) : Nat)) (fun _ iv => s.size - (intOf iv).toNat)
  case atStart => exact ⟨0, by omega, rfl, rfl⟩
  case round =>
    obtain ⟨k, hk, rfl, rfl⟩ := hrel
    have hx := word_lt hn (s.data.toList.take k)
    by_cases h1 : k < s.size
    · have i1 : (k : Int) < (s.size : Int) := by omega
      have HN := Lib.hid (word_at n h1)
      have HS := Lib.hid (stp_walk (word n (s.data.toList.take k)) (s[k]'h1).toNat)
      go_wp2
      go_round
      case rel => exact ⟨k + 1, by omega, by go_num, by rw [HN.out, HS.out]⟩
      case measure => simp [intOf]; omega
    · have i1 : ¬ (k : Int) < (s.size : Int) := by omega
      have HN := Lib.hid (word_all (s := s) (k := k) n (by omega))
      go_wp2
      go_ret
      exact ⟨ret_u32 (by rw [HN.out]), rfl⟩
end Go.Proofs.Ytjlifkhpohfiaaa
