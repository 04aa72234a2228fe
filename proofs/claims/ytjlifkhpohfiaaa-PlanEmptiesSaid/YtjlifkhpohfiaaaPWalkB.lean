/- What hash.Of and the reference's Add and End answer of any word and any text. Condition: words are less than 4294967296, texts have at most 1000000 bytes. -/
import Derived.Test.YtjlifkhpohfiaaaPWalkA
namespace Go.Proofs.Ytjlifkhpohfiaaa
open Go.RowKit Go.Op
set_option maxRecDepth 100000

def sum (s : ByteArray) : Nat := fin (word 0 s.data.toList)
theorem hashof_any (s : ByteArray) (hs : s.size ≤ 1000000) (w : World) : Calls Try.prog 64 #[.string s] w fun e w' => e = .returned (.int .u32 (sum s : Nat)) ∧ w = w' := by
  have ha := fun w => add_any 0 (by decide) s hs w
  have he := fun w => end_any (word 0 s.data.toList) w
  go_enter Try.func64, Try.ntmps64
  go_wp2_with fail
  refine (ha _).mono ?_
  rintro e w1 ⟨rfl, rfl⟩
  go_wp2_with fail
  refine (he _).mono ?_
  rintro e w1 ⟨rfl, rfl⟩
  go_wp2
  go_ret
  exact ⟨rfl, rfl⟩
theorem fin_is (n : Nat) : fin n = turned (n * 9 % 4294967296) 2048 * 32769 % 4294967296 := by unfold fin; exact Eq.refl _
theorem tmod_nat (a m : Nat) : ((a : Int)).tmod (m : Int) = ((a % m : Nat) : Int) := by rw [Int.tmod_eq_emod_of_nonneg (Int.natCast_nonneg _), Int.natCast_emod]
theorem refstp_walk (n b : Nat) (hn : n < 4294967296) (hb : b < 256) : (IntKind.u64.wrap ((IntKind.u64.wrap ((n : Int) + IntKind.u64.wrap (b : Int))).tmod 4294967296 * 1025)).tmod 4294967296 = (((n + b) % 4294967296 * 1025 % 4294967296 : Nat) : Int) := by
  have h := Nat.mod_lt (n + b) (show 0 < 4294967296 by decide)
  rw [IntWalk.u64_in (b : Int) ⟨by omega, by omega⟩, IntWalk.u64_in ((n : Int) + (b : Int)) ⟨by omega, by omega⟩, ← Int.natCast_add, show (4294967296 : Int) = ((4294967296 : Nat) : Int) from rfl, tmod_nat]
  generalize (n + b) % 4294967296 = q at h ⊢
  rw [show (1025 : Int) = ((1025 : Nat) : Int) from rfl, ← Int.natCast_mul, IntWalk.u64_in ((q * 1025 : Nat) : Int) ⟨by omega, by omega⟩, tmod_nat]
theorem refnine_walk (q : Nat) : (q : Int) * 9 % 4294967296 = ((q * 9 % 4294967296 : Nat) : Int) := by omega
theorem reffin_walk (q : Nat) : (q : Int) * 32769 % 4294967296 = ((q * 32769 % 4294967296 : Nat) : Int) := by omega
theorem stp_is (n b : Nat) : stp n b = turned ((n + b) % 4294967296 * 1025 % 4294967296) 64 := by unfold stp; exact Eq.refl _
end Go.Proofs.Ytjlifkhpohfiaaa
