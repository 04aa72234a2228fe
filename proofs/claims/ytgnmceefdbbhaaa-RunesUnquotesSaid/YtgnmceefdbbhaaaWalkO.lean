/- What the code's Join and the reference's answer of any numbers: the text of their runes. Condition: at most 1000 numbers, each of 32 bits, which nobody else writes meanwhile. -/
import Derived.Test.YtgnmceefdbbhaaaWalkN
import Derived.Test.YtgnmceefdbbhaaaMathE
namespace Go.Proofs.Ytgnmceefdbbhaaa
open Go.RowKit

/-- A slice that came in, and holds the numbers l. -/
def Src (w : World) (a : Option Addr) (l : List Int) : Prop :=
  l = [] ∨ ∃ b off, a = some ⟨b, off, none⟩ ∧ b < w.heap.size ∧ ∀ k (hk : k < l.length), w.cell? ⟨b, off + k, none⟩ = some (.int .i32 (l[k]'hk))
theorem Src.below {w w' : World} {a : Option Addr} {l : List Int} (h : Src w a l) (hb : Below w.heap.size w w') : Src w' a l := by
  rcases h with rfl | ⟨b, off, rfl, hlt, hc⟩
  · exact .inl rfl
  · exact .inr ⟨b, off, rfl, Nat.lt_of_lt_of_le hlt hb.size, fun k hk => by rw [hb.cell (p := ⟨b, off + k, none⟩) hlt]; exact hc k hk⟩

theorem join_step {l acc : List _} {k : Nat} {r : Int} (hk : k < l.length) (hr : l[k]'hk = r) (H : acc ++ joinL (l.drop k) = joinL l) : (acc ++ Lib.encodeRune r) ++ joinL (l.drop (k + 1)) = joinL l := by
  rw [List.drop_eq_getElem_cons hk, hr] at H
  rw [← H]
  simp [joinL]
theorem join_end {l : List Int} {acc : List UInt8} {k : Nat} (hk : ¬ k < l.length) (H : acc ++ joinL (l.drop k) = joinL l) : acc = joinL l := by
  rw [List.drop_eq_nil_of_le (by omega)] at H
  simpa [joinL] using H

set_option maxHeartbeats 4000000 in
set_option maxRecDepth 100000 in
theorem join_any (a : Option Addr) (l : List Int) (c : Nat) (w : World) (hl : l.length ≤ 1000) (hw : ∀ r ∈ l, -2147483648 ≤ r ∧ r ≤ 2147483647) (hs : Src w a l) :
    Calls Try.prog 16 #[.slice a l.length c] w fun e w' => e = .returned (.string ⟨(joinL l).toArray⟩) ∧ Below w.heap.size w w' := by
  have HS := Lib.hid hs
  have HW := Lib.hid hw
  clear hs hw
  go_enter Try.func16, Try.ntmps16
  go_wp2_with (go_at_call 28; refine (Try.Builder_Grow_fresh w.heap.size w.heap.size l.length _ (Nat.le_refl _) (alloc_new w _) (by simp) (by omega)).mono ?_)
  rintro e w1 ⟨rfl, h1, b1⟩
  have hI1 : Bld w.heap.size w.heap.size (Lib.byteCells []) w1 := Or.inr (Lib.BuilderAtF.of h1)
  have b1' := ((Below.refl _ w).alloc (Nat.le_refl _) (.cells #[.pointer none, .slice none 0 0] 42)).trans b1
  clear h1 b1
  go_wp2
  go_loopw [11] (fun i wr => ∃ (k : Nat) (acc : List UInt8), i = .int .i64 k ∧ Bld w.heap.size w.heap.size (Lib.byteCells acc) wr ∧ Below w.heap.size w wr ∧ Hid (acc ++ joinL (l.drop k) = joinL l) ∧ k ≤ l.length ∧ acc.length ≤ 4 * k) (fun i _ => l.length - (intOf i).toNat)
  case atStart => exact ⟨0, [], rfl, hI1, b1', rfl, by omega, by simp⟩
  case round =>
    obtain ⟨k, acc, rfl, hI, hb, H, hk, hal⟩ := hrel
    have hsz := hb.size
    by_cases hp : k < l.length
    · obtain ⟨r, hr⟩ : ∃ r, r = l[k]'hp := ⟨_, rfl⟩
      have hr0 := HW.out r (by rw [hr]; exact List.getElem_mem hp)
      have HR := Lib.hid hr.symm
      rcases HS.out with h0 | ⟨b, off, rfl, hlt, hc⟩
      · rw [h0] at hp
        simp at hp
      · have hcell : wr.cell? ⟨b, off + k, none⟩ = some (.int .i32 r) := by
          rw [hb.cell (p := ⟨b, off + k, none⟩) hlt, hr]
          exact hc k hp
        clear hc hr
        go_wp2_with (go_at_call 29; refine (writeRune_any w.heap.size w.heap.size _ r (by omega) (by omega) _ hI (by rw [Lib.byteCells_length]; omega) hsz).mono ?_)
        rintro e w2 ⟨rfl, h2, b2, k2⟩
        have hI2 : Bld w.heap.size w.heap.size (Lib.byteCells (acc ++ Lib.encodeRune r)) w2 := by
          rw [Lib.byteCells_append, Lib.byteCells_encodeRune]
          exact Or.inr h2
        have hl4 := enc_length r
        clear h2 k2 hI
        go_wp2
        go_roundw
        case rel => exact ⟨k + 1, _, by go_num, hI2, hb.trans b2, Lib.hid (join_step hp HR.out H.out), by omega, by simp; omega⟩
        case measure => simp [intOf]; omega
    · have HE := Lib.hid (join_end hp H.out)
      go_wp2_with (go_at_call 30; refine (Try.Builder_String_any_k w.heap.size w.heap.size acc _ hI hsz).mono ?_)
      rintro e w4 ⟨rfl, _, b4, _⟩
      go_wp2
      go_ret
      rw [← HE.out]
      exact ⟨rfl, hb.trans b4⟩
end Go.Proofs.Ytgnmceefdbbhaaa
