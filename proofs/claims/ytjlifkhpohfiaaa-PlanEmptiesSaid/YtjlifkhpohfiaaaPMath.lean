/- The document's sum in numbers: the word behind a text, the sum of a word; each step is one to one on words of 32 bits. No condition but that words are less than 4294967296. -/
import Derived.Test.YtjlifkhpohfiaaaRows
import Derived.Lib.Hide
namespace Go.Proofs.Ytjlifkhpohfiaaa

def turned (n k : Nat) : Nat := n ^^^ n / k
def stp (n b : Nat) : Nat := turned ((n + b) % 4294967296 * 1025 % 4294967296) 64
def word (n : Nat) : List UInt8 → Nat
  | [] => n
  | b :: r => word (stp n b.toNat) r
def fin (n : Nat) : Nat := turned (n * 9 % 4294967296) 2048 * 32769 % 4294967296

theorem turned_lt {n k : Nat} (h : n < 4294967296) : turned n k < 4294967296 := by
  have : n / k < 4294967296 := Nat.lt_of_le_of_lt (Nat.div_le_self _ _) h
  exact Nat.xor_lt_two_pow (n := 32) h this
theorem stp_lt (n b : Nat) : stp n b < 4294967296 := turned_lt (Nat.mod_lt _ (by decide))
theorem word_lt {n : Nat} (h : n < 4294967296) (l : List UInt8) : word n l < 4294967296 := by
  induction l generalizing n with
  | nil => exact h
  | cons b r ih => exact ih (stp_lt _ _)
theorem fin_lt (n : Nat) : fin n < 4294967296 := Nat.mod_lt _ (by decide)
theorem word_append (n : Nat) (l m : List UInt8) : word n (l ++ m) = word (word n l) m := by
  induction l generalizing n with
  | nil => rfl
  | cons b r ih => exact ih _
theorem word_snoc (n : Nat) (l : List UInt8) (b : UInt8) : word n (l ++ [b]) = stp (word n l) b.toNat := word_append n l [b]

theorem turned_inj {a b : Nat} (k : Nat) (h : turned a (2 ^ (k + 1)) = turned b (2 ^ (k + 1))) : a = b := by
  have e : (a ^^^ b) = (a ^^^ b) / 2 ^ (k + 1) := by
    have h1 : (a ^^^ a / 2 ^ (k + 1)) = (b ^^^ b / 2 ^ (k + 1)) := h
    have h2 : (a ^^^ b) / 2 ^ (k + 1) = (a / 2 ^ (k + 1)) ^^^ (b / 2 ^ (k + 1)) := Nat.xor_div_two_pow
    rw [h2]
    have h3 : a = (b ^^^ b / 2 ^ (k + 1)) ^^^ a / 2 ^ (k + 1) := by rw [← h1, Nat.xor_assoc, Nat.xor_self, Nat.xor_zero]
    calc a ^^^ b = ((b ^^^ b / 2 ^ (k + 1)) ^^^ a / 2 ^ (k + 1)) ^^^ b := by rw [← h3]
      _ = a / 2 ^ (k + 1) ^^^ b / 2 ^ (k + 1) := by
        rw [Nat.xor_comm b (b / 2 ^ (k + 1)), Nat.xor_assoc (b / 2 ^ (k + 1)) b, Nat.xor_comm b (a / 2 ^ (k + 1)), ← Nat.xor_assoc, Nat.xor_assoc, Nat.xor_self, Nat.xor_zero, Nat.xor_comm]
  have p : 2 ≤ 2 ^ (k + 1) := by rw [Nat.pow_succ]; have := Nat.one_le_two_pow (n := k); omega
  have z : (a ^^^ b) = 0 := by
    rcases Nat.eq_zero_or_pos (a ^^^ b) with z | z
    · exact z
    · have := Nat.div_lt_self z p
      omega
  have z2 : (a ^^^ b) ^^^ b = b := by rw [z, Nat.zero_xor]
  rwa [Nat.xor_assoc, Nat.xor_self, Nat.xor_zero] at z2
theorem times_back (k j : Nat) (hk : k * j % 4294967296 = 1) {a : Nat} (ha : a < 4294967296) : a * k % 4294967296 * j % 4294967296 = a := by
  rw [Nat.mod_mul_mod, Nat.mul_assoc, Nat.mul_mod, hk, Nat.mul_one, Nat.mod_mod, Nat.mod_eq_of_lt ha]
theorem times_inj (k j : Nat) (hk : k * j % 4294967296 = 1) {a b : Nat} (ha : a < 4294967296) (hb : b < 4294967296) (h : a * k % 4294967296 = b * k % 4294967296) : a = b := by
  rw [← times_back k j hk ha, h, times_back k j hk hb]
theorem times1025 {a b : Nat} (ha : a < 4294967296) (hb : b < 4294967296) (h : a * 1025 % 4294967296 = b * 1025 % 4294967296) : a = b := times_inj 1025 3222273025 (by decide) ha hb h
theorem times9 {a b : Nat} (ha : a < 4294967296) (hb : b < 4294967296) (h : a * 9 % 4294967296 = b * 9 % 4294967296) : a = b := times_inj 9 954437177 (by decide) ha hb h
theorem times32769 {a b : Nat} (ha : a < 4294967296) (hb : b < 4294967296) (h : a * 32769 % 4294967296 = b * 32769 % 4294967296) : a = b := times_inj 32769 1073709057 (by decide) ha hb h
theorem stp_word {a b : Nat} (c : Nat) (ha : a < 4294967296) (hb : b < 4294967296) (h : stp a c = stp b c) : a = b := by
  have := times1025 (Nat.mod_lt _ (by decide)) (Nat.mod_lt _ (by decide)) (turned_inj 5 h)
  omega
theorem stp_byte {a b : Nat} (c : Nat) (ha : a < 256) (hb : b < 256) (h : stp c a = stp c b) : a = b := by
  have := times1025 (Nat.mod_lt _ (by decide)) (Nat.mod_lt _ (by decide)) (turned_inj 5 h)
  omega
theorem fin_inj {a b : Nat} (ha : a < 4294967296) (hb : b < 4294967296) (h : fin a = fin b) : a = b :=
  times9 ha hb (turned_inj 10 (times32769 (turned_lt (Nat.mod_lt _ (by decide))) (turned_lt (Nat.mod_lt _ (by decide))) h))
theorem word_inj {a b : Nat} (ha : a < 4294967296) (hb : b < 4294967296) (l : List UInt8) (h : word a l = word b l) : a = b := by
  induction l generalizing a b with
  | nil => exact h
  | cons c r ih => exact stp_word _ ha hb (ih (stp_lt _ _) (stp_lt _ _) h)
theorem word_byte (n : Nat) (l : List UInt8) (a b : UInt8) (r : List UInt8) (h : word n (l ++ a :: r) = word n (l ++ b :: r)) : a = b := by
  rw [word_append, word_append] at h
  have := stp_byte _ a.toNat_lt b.toNat_lt (word_inj (stp_lt _ _) (stp_lt _ _) r h)
  exact UInt8.toNat_inj.1 this
end Go.Proofs.Ytjlifkhpohfiaaa
