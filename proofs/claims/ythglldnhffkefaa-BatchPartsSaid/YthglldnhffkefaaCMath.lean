/- Entries that are parted by three spans that join, the last one without an end, are one behind the other the entries from the first span's beginning on. Condition: the entries are sorted. -/
import Derived.Test.YthglldnhffkefaaBWalkJ
namespace Go.Proofs.Ythglldnhffkefaa
open Go.RowKit Go.Op
theorem drop_ge {L : List En} (hU : Up L) {n : Nat} {m : ByteArray} (h : ∀ hn : n < L.length, lt (L[n]'hn).key m = false) : ∀ e ∈ L.drop n, lt e.key m = false := by
  intro e he
  obtain ⟨j, hj, rfl⟩ := List.mem_iff_getElem.1 he
  have hl : n + j < L.length := by rw [List.length_drop] at hj; omega
  rw [List.getElem_drop]
  have h0 := h (by omega)
  by_cases hj0 : j = 0
  · subst hj0
    exact h0
  · have := (List.pairwise_iff_getElem.1 hU) n (n + j) (by omega) hl (by omega)
    exact le_trans h0 this
theorem from_ge {L : List En} (hU : Up L) (m : ByteArray) : ∀ e ∈ fromL L m, lt e.key m = false :=
  drop_ge hU fun hn => by
    rcases from_step (l := L) (lo := m) (i := fromN L m) (Nat.le_refl _) hn with ⟨_, h⟩ | ⟨h, _⟩
    · omega
    · exact h
theorem from_id {L : List En} {m : ByteArray} (h : ∀ e ∈ L, lt e.key m = false) : fromL L m = L := by
  have h0 : fromN L m = 0 := by
    rcases Nat.eq_zero_or_pos (fromN L m) with h1 | h1
    · exact h1
    · have h2 := fromN_le L m
      rcases from_step (l := L) (lo := m) (i := 0) (Nat.zero_le _) (by omega) with ⟨h3, _⟩ | ⟨_, h3⟩
      · rw [h _ (List.getElem_mem _)] at h3
        cases h3
      · exact h3
  unfold fromL
  rw [h0, List.drop_zero]
theorem within_stop {L : List En} {s : Sp} (hn : wN L s < L.length) : s.has (L[wN L s]'hn).key = false := by
  rcases within_step (l := L) (s := s) (i := wN L s) (Nat.le_refl _) hn with ⟨_, h⟩ | ⟨h, _⟩
  · omega
  · exact h
theorem within_all {L : List En} {s : Sp} (h : ∀ e ∈ L, s.has e.key = true) : withinL L s = L := by
  have h1 := wN_le L s
  have h2 : wN L s = L.length := by
    rcases Nat.lt_or_ge (wN L s) L.length with h3 | h3
    · have := within_stop h3
      rw [h _ (List.getElem_mem _)] at this
      cases this
    · omega
  unfold withinL
  rw [h2, List.take_length]
theorem rest_ge {L : List En} (hU : Up L) {lo m : ByteArray} (h : ∀ e ∈ L, lt e.key lo = false) : ∀ e ∈ L.drop (wN L ⟨lo, m, false⟩), lt e.key m = false :=
  drop_ge hU fun hn => by
    have h1 := within_stop hn
    have h2 := h _ (List.getElem_mem hn)
    simp only [Sp.has, h2, Bool.not_false, Bool.true_and, Bool.false_or] at h1
    exact h1
theorem parts_joined (L : List En) (hU : Up L) (lo mid high t : ByteArray) : ∃ A B C, partsL L [⟨lo, mid, false⟩, ⟨mid, high, false⟩, ⟨high, t, true⟩] = [A, B, C] ∧ A ++ B ++ C = fromL L lo := by
  have hU1 : Up (fromL L lo) := List.Pairwise.sublist (List.drop_sublist _ _) hU
  have g1 := from_ge hU lo
  refine ⟨_, _, _, rfl, ?_⟩
  simp only
  generalize fromL L lo = F at hU1 g1
  have g2 := rest_ge hU1 (m := mid) g1
  have hU2 : Up (F.drop (wN F ⟨lo, mid, false⟩)) := List.Pairwise.sublist (List.drop_sublist _ _) hU1
  have hA : withinL F ⟨lo, mid, false⟩ = F.take (wN F ⟨lo, mid, false⟩) := rfl
  rw [from_id g2, hA]
  generalize hn : wN F ⟨lo, mid, false⟩ = n at g2 hU2
  have hF : F = F.take n ++ F.drop n := (List.take_append_drop n F).symm
  generalize F.drop n = R at g2 hU2 hF
  have g3 := rest_ge hU2 (m := high) g2
  have hB : withinL R ⟨mid, high, false⟩ = R.take (wN R ⟨mid, high, false⟩) := rfl
  rw [from_id g3, hB]
  have hR : R = R.take (wN R ⟨mid, high, false⟩) ++ R.drop (wN R ⟨mid, high, false⟩) := (List.take_append_drop _ R).symm
  generalize R.drop (wN R ⟨mid, high, false⟩) = Q at g3 hR
  rw [within_all (fun e he => by simp [Sp.has, g3 e he]), List.append_assoc, ← hR, ← hF]
end Go.Proofs.Ythglldnhffkefaa
