/- KeyCuts answers true, whatever span of the reference and texts it is handed. No condition. -/
import Derived.Test.YtkafbjnhjmlabaaWalkH
namespace Go.Proofs.Ytkafbjnhjmlabaa
open Go.RowKit Go.Op
set_option maxRecDepth 100000

set_option maxHeartbeats 2000000 in
theorem cuts_s (lo hi : ByteArray) (al : Bool) (at_ k : ByteArray) (w : World) (hs : (Sp.mk lo hi al).short = false) : Calls Try.prog 6 #[.agg #[.string lo, .string hi, .bool al], .string at_, .string k] w fun e w' => e = .returned (.bool true) ∧ Below w.heap.size w w' := by
  have hsh := @short_1 lo hi al false hs
  clear hs
  go_enter Try.func6, Try.ntmps6
  go_wp2_with fail
  refine (awake_any _).mono ?_
  rintro e w1 ⟨rfl, b1⟩
  have hz := b1.size
  simp at hz
  have c0 : w1.cell? ⟨w.heap.size, 0, none⟩ = some (.string lo) := keep b1 (by simp [go_sem]) (by simp)
  have c1 : w1.cell? ⟨w.heap.size, 1, none⟩ = some (.string hi) := keep b1 (by simp [go_sem]) (by simp)
  have c2 : w1.cell? ⟨w.heap.size, 2, none⟩ = some (.bool al) := keep b1 (by simp [go_sem]) (by simp)
  have B1 : Below w.heap.size w w1 := ((Below.refl _ _).alloc (Nat.le_refl _) _).trans (b1.mono (by simp))
  clear b1
  go_wp2_with fail
  refine (hsh _ _ _ (by simp [go_sem]) (by simp [go_sem])).mono ?_
  rintro e w2 ⟨rfl, b2⟩
  have hz2 := b2.size
  simp at hz2
  go_wp2_with fail
  refine (awake_any _).mono ?_
  rintro e w3 ⟨rfl, b3⟩
  go_wp2
  go_ret
  exact ⟨rfl, ((B1.alloc (by omega) _).trans (b2.mono (by simp <;> omega))).trans (b3.mono (by omega))⟩
set_option maxHeartbeats 2000000 in
theorem cuts_k (lo hi : ByteArray) (al : Bool) (at_ k : ByteArray) (w : World) (hs : (Sp.mk lo hi al).short = true) (d0 : decide ((1100 : Int) < (k.size : Int)) = true) : Calls Try.prog 6 #[.agg #[.string lo, .string hi, .bool al], .string at_, .string k] w fun e w' => e = .returned (.bool true) ∧ Below w.heap.size w w' := by
  have hsh := @short_1 lo hi al true hs
  clear hs
  go_enter Try.func6, Try.ntmps6
  go_wp2_with fail
  refine (awake_any _).mono ?_
  rintro e w1 ⟨rfl, b1⟩
  have hz := b1.size
  simp at hz
  have c0 : w1.cell? ⟨w.heap.size, 0, none⟩ = some (.string lo) := keep b1 (by simp [go_sem]) (by simp)
  have c1 : w1.cell? ⟨w.heap.size, 1, none⟩ = some (.string hi) := keep b1 (by simp [go_sem]) (by simp)
  have c2 : w1.cell? ⟨w.heap.size, 2, none⟩ = some (.bool al) := keep b1 (by simp [go_sem]) (by simp)
  have B1 : Below w.heap.size w w1 := ((Below.refl _ _).alloc (Nat.le_refl _) _).trans (b1.mono (by simp))
  clear b1
  go_wp2_with fail
  refine (hsh _ _ _ (by simp [go_sem]) (by simp [go_sem])).mono ?_
  rintro e w2 ⟨rfl, b2⟩
  have hz2 := b2.size
  simp at hz2
  go_wp2_with fail
  refine (awake_any _).mono ?_
  rintro e w3 ⟨rfl, b3⟩
  go_wp2
  go_ret
  exact ⟨rfl, ((B1.alloc (by omega) _).trans (b2.mono (by simp <;> omega))).trans (b3.mono (by omega))⟩
set_option maxHeartbeats 2000000 in
theorem cuts_a (lo hi : ByteArray) (al : Bool) (at_ k : ByteArray) (w : World) (hs : (Sp.mk lo hi al).short = true) (d0 : decide ((1100 : Int) < (k.size : Int)) = false) (d1 : decide ((1100 : Int) < (at_.size : Int)) = true) : Calls Try.prog 6 #[.agg #[.string lo, .string hi, .bool al], .string at_, .string k] w fun e w' => e = .returned (.bool true) ∧ Below w.heap.size w w' := by
  have hsh := @short_1 lo hi al true hs
  clear hs
  go_enter Try.func6, Try.ntmps6
  go_wp2_with fail
  refine (awake_any _).mono ?_
  rintro e w1 ⟨rfl, b1⟩
  have hz := b1.size
  simp at hz
  have c0 : w1.cell? ⟨w.heap.size, 0, none⟩ = some (.string lo) := keep b1 (by simp [go_sem]) (by simp)
  have c1 : w1.cell? ⟨w.heap.size, 1, none⟩ = some (.string hi) := keep b1 (by simp [go_sem]) (by simp)
  have c2 : w1.cell? ⟨w.heap.size, 2, none⟩ = some (.bool al) := keep b1 (by simp [go_sem]) (by simp)
  have B1 : Below w.heap.size w w1 := ((Below.refl _ _).alloc (Nat.le_refl _) _).trans (b1.mono (by simp))
  clear b1
  go_wp2_with fail
  refine (hsh _ _ _ (by simp [go_sem]) (by simp [go_sem])).mono ?_
  rintro e w2 ⟨rfl, b2⟩
  have hz2 := b2.size
  simp at hz2
  go_wp2_with fail
  refine (awake_any _).mono ?_
  rintro e w3 ⟨rfl, b3⟩
  go_wp2
  go_ret
  exact ⟨rfl, ((B1.alloc (by omega) _).trans (b2.mono (by simp <;> omega))).trans (b3.mono (by omega))⟩
set_option maxHeartbeats 4000000 in
theorem cuts_1 (lo hi : ByteArray) (al : Bool) (at_ k : ByteArray) (w : World) (hs : (Sp.mk lo hi al).short = true) (d0 : decide ((1100 : Int) < (k.size : Int)) = false) (d1 : decide ((1100 : Int) < (at_.size : Int)) = false) (hh : (Sp.mk lo hi al).has k = true) (hl : bytesLess k.toList at_.toList = true) : Calls Try.prog 6 #[.agg #[.string lo, .string hi, .bool al], .string at_, .string k] w fun e w' => e = .returned (.bool true) ∧ Below w.heap.size w w' := by
  have hsh := @short_1 lo hi al true hs
  clear hs
  have hasA := has_any ((Sp.mk lo hi al).meet ⟨no, at_, false⟩) k
  have hasB := has_any ((Sp.mk lo hi al).meet ⟨at_, no, true⟩) k
  have hasS := has_any (Sp.mk lo hi al) k
  have hcut := cut_any (Sp.mk lo hi al) at_
  rw [has_below, hh, show lt k at_ = true from hl] at hasA
  rw [has_beyond, hh, show lt k at_ = true from hl] at hasB
  rw [hh] at hasS
  clear hh
  obtain ⟨A, hA⟩ : ∃ A, A = (Sp.mk lo hi al).meet ⟨no, at_, false⟩ := ⟨_, rfl⟩
  obtain ⟨B, hB⟩ : ∃ B, B = (Sp.mk lo hi al).meet ⟨at_, no, true⟩ := ⟨_, rfl⟩
  rw [← hA] at hasA hcut
  rw [← hB] at hasB hcut
  clear hA hB
  simp only [Sp.v] at hasA hasB hasS hcut
  simp only [Bool.and_true, Bool.and_false, Bool.not_true] at hasA hasB
  go_enter Try.func6, Try.ntmps6
  go_wp2_with fail
  refine (awake_any _).mono ?_
  rintro e w1 ⟨rfl, b1⟩
  have hz := b1.size
  simp at hz
  have c0 : w1.cell? ⟨w.heap.size, 0, none⟩ = some (.string lo) := keep b1 (by simp [go_sem]) (by simp)
  have c1 : w1.cell? ⟨w.heap.size, 1, none⟩ = some (.string hi) := keep b1 (by simp [go_sem]) (by simp)
  have c2 : w1.cell? ⟨w.heap.size, 2, none⟩ = some (.bool al) := keep b1 (by simp [go_sem]) (by simp)
  have B1 : Below w.heap.size w w1 := ((Below.refl _ _).alloc (Nat.le_refl _) _).trans (b1.mono (by simp))
  clear b1
  go_wp2_with fail
  refine (hsh _ _ _ (by simp [go_sem]) (by simp [go_sem])).mono ?_
  rintro e w2 ⟨rfl, b2⟩
  have hz2 := b2.size
  simp at hz2
  have hlt : w.heap.size < w1.heap.size := by omega
  replace c0 : w2.cell? ⟨w.heap.size, 0, none⟩ = some (.string lo) := keep b2 (by simp [go_sem, c0, hlt]) (by simp <;> omega)
  replace c1 : w2.cell? ⟨w.heap.size, 1, none⟩ = some (.string hi) := keep b2 (by simp [go_sem, c1, hlt]) (by simp <;> omega)
  replace c2 : w2.cell? ⟨w.heap.size, 2, none⟩ = some (.bool al) := keep b2 (by simp [go_sem, c2, hlt]) (by simp <;> omega)
  have B2 : Below w.heap.size w w2 := (B1.alloc (by omega) _).trans (b2.mono (by simp <;> omega))
  clear b2 B1
  go_wp2_with fail
  refine (of_any (Sp.mk lo hi al) _).mono ?_
  rintro e w3 ⟨rfl, b3⟩
  have hz3 := b3.size
  replace c0 := keep b3 c0 (by omega)
  replace c1 := keep b3 c1 (by omega)
  replace c2 := keep b3 c2 (by omega)
  have B3 := B2.trans (b3.mono (by omega))
  clear b3 B2
  simp only [Sp.v]
  go_wp2_with fail
  refine (hcut _).mono ?_
  rintro e w4 ⟨rfl, b4⟩
  have hz4 := b4.size
  replace c0 := keep b4 c0 (by omega)
  replace c1 := keep b4 c1 (by omega)
  replace c2 := keep b4 c2 (by omega)
  have B4 := B3.trans (b4.mono (by omega))
  have hlt4 : w.heap.size < w4.heap.size := by omega
  clear b4 B3
  go_wp2_with fail
  refine (of_any (Sp.mk lo hi al) _).mono ?_
  rintro e w5 ⟨rfl, b5⟩
  have hz5 := b5.size
  simp at hz5
  have x0 : w5.cell? ⟨w4.heap.size, 0, none⟩ = some (.string A.lo) := keep b5 (by simp [go_sem]) (by simp <;> omega)
  have x1 : w5.cell? ⟨w4.heap.size, 1, none⟩ = some (.string A.hi) := keep b5 (by simp [go_sem]) (by simp <;> omega)
  have x2 : w5.cell? ⟨w4.heap.size, 2, none⟩ = some (.bool A.all) := keep b5 (by simp [go_sem]) (by simp <;> omega)
  have y0 : w5.cell? ⟨w4.heap.size + 1, 0, none⟩ = some (.string B.lo) := keep b5 (by simp [go_sem]) (by simp)
  have y1 : w5.cell? ⟨w4.heap.size + 1, 1, none⟩ = some (.string B.hi) := keep b5 (by simp [go_sem]) (by simp)
  have y2 : w5.cell? ⟨w4.heap.size + 1, 2, none⟩ = some (.bool B.all) := keep b5 (by simp [go_sem]) (by simp)
  have B5 : Below w.heap.size w w5 := ((B4.alloc (by omega) _).alloc (by simp <;> omega) _).trans (b5.mono (by simp <;> omega))
  clear b5 B4 c0 c1 c2
  simp only [Sp.v]
  go_wp2_with fail
  refine (hasS _).mono ?_
  rintro e w6 ⟨rfl, b6⟩
  have hz6 := b6.size
  replace x0 := keep b6 x0 (by omega)
  replace x1 := keep b6 x1 (by omega)
  replace x2 := keep b6 x2 (by omega)
  replace y0 := keep b6 y0 (by omega)
  replace y1 := keep b6 y1 (by omega)
  replace y2 := keep b6 y2 (by omega)
  have B6 := B5.trans (b6.mono (by omega))
  clear b6 B5
  go_wp2_with fail
  refine (hasA _).mono ?_
  rintro e w7 ⟨rfl, b7⟩
  have hz7 := b7.size
  replace y0 := keep b7 y0 (by omega)
  replace y1 := keep b7 y1 (by omega)
  replace y2 := keep b7 y2 (by omega)
  have B7 := B6.trans (b7.mono (by omega))
  clear b7 B6
  go_wp2_with fail
  refine (hasB _).mono ?_
  rintro e w8 ⟨rfl, b8⟩
  go_wp2
  go_ret
  exact ⟨rfl, B7.trans (b8.mono (by omega))⟩
set_option maxHeartbeats 4000000 in
theorem cuts_2 (lo hi : ByteArray) (al : Bool) (at_ k : ByteArray) (w : World) (hs : (Sp.mk lo hi al).short = true) (d0 : decide ((1100 : Int) < (k.size : Int)) = false) (d1 : decide ((1100 : Int) < (at_.size : Int)) = false) (hh : (Sp.mk lo hi al).has k = true) (hl : bytesLess k.toList at_.toList = false) : Calls Try.prog 6 #[.agg #[.string lo, .string hi, .bool al], .string at_, .string k] w fun e w' => e = .returned (.bool true) ∧ Below w.heap.size w w' := by
  have hsh := @short_1 lo hi al true hs
  clear hs
  have hasA := has_any ((Sp.mk lo hi al).meet ⟨no, at_, false⟩) k
  have hasB := has_any ((Sp.mk lo hi al).meet ⟨at_, no, true⟩) k
  have hasS := has_any (Sp.mk lo hi al) k
  have hcut := cut_any (Sp.mk lo hi al) at_
  rw [has_below, hh, show lt k at_ = false from hl] at hasA
  rw [has_beyond, hh, show lt k at_ = false from hl] at hasB
  rw [hh] at hasS
  clear hh
  obtain ⟨A, hA⟩ : ∃ A, A = (Sp.mk lo hi al).meet ⟨no, at_, false⟩ := ⟨_, rfl⟩
  obtain ⟨B, hB⟩ : ∃ B, B = (Sp.mk lo hi al).meet ⟨at_, no, true⟩ := ⟨_, rfl⟩
  rw [← hA] at hasA hcut
  rw [← hB] at hasB hcut
  clear hA hB
  simp only [Sp.v] at hasA hasB hasS hcut
  simp only [Bool.and_true, Bool.and_false, Bool.not_false] at hasA hasB
  go_enter Try.func6, Try.ntmps6
  go_wp2_with fail
  refine (awake_any _).mono ?_
  rintro e w1 ⟨rfl, b1⟩
  have hz := b1.size
  simp at hz
  have c0 : w1.cell? ⟨w.heap.size, 0, none⟩ = some (.string lo) := keep b1 (by simp [go_sem]) (by simp)
  have c1 : w1.cell? ⟨w.heap.size, 1, none⟩ = some (.string hi) := keep b1 (by simp [go_sem]) (by simp)
  have c2 : w1.cell? ⟨w.heap.size, 2, none⟩ = some (.bool al) := keep b1 (by simp [go_sem]) (by simp)
  have B1 : Below w.heap.size w w1 := ((Below.refl _ _).alloc (Nat.le_refl _) _).trans (b1.mono (by simp))
  clear b1
  go_wp2_with fail
  refine (hsh _ _ _ (by simp [go_sem]) (by simp [go_sem])).mono ?_
  rintro e w2 ⟨rfl, b2⟩
  have hz2 := b2.size
  simp at hz2
  have hlt : w.heap.size < w1.heap.size := by omega
  replace c0 : w2.cell? ⟨w.heap.size, 0, none⟩ = some (.string lo) := keep b2 (by simp [go_sem, c0, hlt]) (by simp <;> omega)
  replace c1 : w2.cell? ⟨w.heap.size, 1, none⟩ = some (.string hi) := keep b2 (by simp [go_sem, c1, hlt]) (by simp <;> omega)
  replace c2 : w2.cell? ⟨w.heap.size, 2, none⟩ = some (.bool al) := keep b2 (by simp [go_sem, c2, hlt]) (by simp <;> omega)
  have B2 : Below w.heap.size w w2 := (B1.alloc (by omega) _).trans (b2.mono (by simp <;> omega))
  clear b2 B1
  go_wp2_with fail
  refine (of_any (Sp.mk lo hi al) _).mono ?_
  rintro e w3 ⟨rfl, b3⟩
  have hz3 := b3.size
  replace c0 := keep b3 c0 (by omega)
  replace c1 := keep b3 c1 (by omega)
  replace c2 := keep b3 c2 (by omega)
  have B3 := B2.trans (b3.mono (by omega))
  clear b3 B2
  simp only [Sp.v]
  go_wp2_with fail
  refine (hcut _).mono ?_
  rintro e w4 ⟨rfl, b4⟩
  have hz4 := b4.size
  replace c0 := keep b4 c0 (by omega)
  replace c1 := keep b4 c1 (by omega)
  replace c2 := keep b4 c2 (by omega)
  have B4 := B3.trans (b4.mono (by omega))
  have hlt4 : w.heap.size < w4.heap.size := by omega
  clear b4 B3
  go_wp2_with fail
  refine (of_any (Sp.mk lo hi al) _).mono ?_
  rintro e w5 ⟨rfl, b5⟩
  have hz5 := b5.size
  simp at hz5
  have x0 : w5.cell? ⟨w4.heap.size, 0, none⟩ = some (.string A.lo) := keep b5 (by simp [go_sem]) (by simp <;> omega)
  have x1 : w5.cell? ⟨w4.heap.size, 1, none⟩ = some (.string A.hi) := keep b5 (by simp [go_sem]) (by simp <;> omega)
  have x2 : w5.cell? ⟨w4.heap.size, 2, none⟩ = some (.bool A.all) := keep b5 (by simp [go_sem]) (by simp <;> omega)
  have y0 : w5.cell? ⟨w4.heap.size + 1, 0, none⟩ = some (.string B.lo) := keep b5 (by simp [go_sem]) (by simp)
  have y1 : w5.cell? ⟨w4.heap.size + 1, 1, none⟩ = some (.string B.hi) := keep b5 (by simp [go_sem]) (by simp)
  have y2 : w5.cell? ⟨w4.heap.size + 1, 2, none⟩ = some (.bool B.all) := keep b5 (by simp [go_sem]) (by simp)
  have B5 : Below w.heap.size w w5 := ((B4.alloc (by omega) _).alloc (by simp <;> omega) _).trans (b5.mono (by simp <;> omega))
  clear b5 B4 c0 c1 c2
  simp only [Sp.v]
  go_wp2_with fail
  refine (hasS _).mono ?_
  rintro e w6 ⟨rfl, b6⟩
  have hz6 := b6.size
  replace x0 := keep b6 x0 (by omega)
  replace x1 := keep b6 x1 (by omega)
  replace x2 := keep b6 x2 (by omega)
  replace y0 := keep b6 y0 (by omega)
  replace y1 := keep b6 y1 (by omega)
  replace y2 := keep b6 y2 (by omega)
  have B6 := B5.trans (b6.mono (by omega))
  clear b6 B5
  go_wp2_with fail
  refine (hasA _).mono ?_
  rintro e w7 ⟨rfl, b7⟩
  have hz7 := b7.size
  replace y0 := keep b7 y0 (by omega)
  replace y1 := keep b7 y1 (by omega)
  replace y2 := keep b7 y2 (by omega)
  have B7 := B6.trans (b7.mono (by omega))
  clear b7 B6
  go_wp2_with fail
  refine (hasB _).mono ?_
  rintro e w8 ⟨rfl, b8⟩
  go_wp2
  go_ret
  exact ⟨rfl, B7.trans (b8.mono (by omega))⟩
set_option maxHeartbeats 4000000 in
theorem cuts_3 (lo hi : ByteArray) (al : Bool) (at_ k : ByteArray) (w : World) (hs : (Sp.mk lo hi al).short = true) (d0 : decide ((1100 : Int) < (k.size : Int)) = false) (d1 : decide ((1100 : Int) < (at_.size : Int)) = false) (hh : (Sp.mk lo hi al).has k = false) (hl : bytesLess k.toList at_.toList = true) : Calls Try.prog 6 #[.agg #[.string lo, .string hi, .bool al], .string at_, .string k] w fun e w' => e = .returned (.bool true) ∧ Below w.heap.size w w' := by
  have hsh := @short_1 lo hi al true hs
  clear hs
  have hasA := has_any ((Sp.mk lo hi al).meet ⟨no, at_, false⟩) k
  have hasB := has_any ((Sp.mk lo hi al).meet ⟨at_, no, true⟩) k
  have hasS := has_any (Sp.mk lo hi al) k
  have hcut := cut_any (Sp.mk lo hi al) at_
  rw [has_below, hh, show lt k at_ = true from hl] at hasA
  rw [has_beyond, hh, show lt k at_ = true from hl] at hasB
  rw [hh] at hasS
  clear hh
  obtain ⟨A, hA⟩ : ∃ A, A = (Sp.mk lo hi al).meet ⟨no, at_, false⟩ := ⟨_, rfl⟩
  obtain ⟨B, hB⟩ : ∃ B, B = (Sp.mk lo hi al).meet ⟨at_, no, true⟩ := ⟨_, rfl⟩
  rw [← hA] at hasA hcut
  rw [← hB] at hasB hcut
  clear hA hB
  simp only [Sp.v] at hasA hasB hasS hcut
  simp only [Bool.and_true, Bool.and_false, Bool.not_true] at hasA hasB
  go_enter Try.func6, Try.ntmps6
  go_wp2_with fail
  refine (awake_any _).mono ?_
  rintro e w1 ⟨rfl, b1⟩
  have hz := b1.size
  simp at hz
  have c0 : w1.cell? ⟨w.heap.size, 0, none⟩ = some (.string lo) := keep b1 (by simp [go_sem]) (by simp)
  have c1 : w1.cell? ⟨w.heap.size, 1, none⟩ = some (.string hi) := keep b1 (by simp [go_sem]) (by simp)
  have c2 : w1.cell? ⟨w.heap.size, 2, none⟩ = some (.bool al) := keep b1 (by simp [go_sem]) (by simp)
  have B1 : Below w.heap.size w w1 := ((Below.refl _ _).alloc (Nat.le_refl _) _).trans (b1.mono (by simp))
  clear b1
  go_wp2_with fail
  refine (hsh _ _ _ (by simp [go_sem]) (by simp [go_sem])).mono ?_
  rintro e w2 ⟨rfl, b2⟩
  have hz2 := b2.size
  simp at hz2
  have hlt : w.heap.size < w1.heap.size := by omega
  replace c0 : w2.cell? ⟨w.heap.size, 0, none⟩ = some (.string lo) := keep b2 (by simp [go_sem, c0, hlt]) (by simp <;> omega)
  replace c1 : w2.cell? ⟨w.heap.size, 1, none⟩ = some (.string hi) := keep b2 (by simp [go_sem, c1, hlt]) (by simp <;> omega)
  replace c2 : w2.cell? ⟨w.heap.size, 2, none⟩ = some (.bool al) := keep b2 (by simp [go_sem, c2, hlt]) (by simp <;> omega)
  have B2 : Below w.heap.size w w2 := (B1.alloc (by omega) _).trans (b2.mono (by simp <;> omega))
  clear b2 B1
  go_wp2_with fail
  refine (of_any (Sp.mk lo hi al) _).mono ?_
  rintro e w3 ⟨rfl, b3⟩
  have hz3 := b3.size
  replace c0 := keep b3 c0 (by omega)
  replace c1 := keep b3 c1 (by omega)
  replace c2 := keep b3 c2 (by omega)
  have B3 := B2.trans (b3.mono (by omega))
  clear b3 B2
  simp only [Sp.v]
  go_wp2_with fail
  refine (hcut _).mono ?_
  rintro e w4 ⟨rfl, b4⟩
  have hz4 := b4.size
  replace c0 := keep b4 c0 (by omega)
  replace c1 := keep b4 c1 (by omega)
  replace c2 := keep b4 c2 (by omega)
  have B4 := B3.trans (b4.mono (by omega))
  have hlt4 : w.heap.size < w4.heap.size := by omega
  clear b4 B3
  go_wp2_with fail
  refine (of_any (Sp.mk lo hi al) _).mono ?_
  rintro e w5 ⟨rfl, b5⟩
  have hz5 := b5.size
  simp at hz5
  have x0 : w5.cell? ⟨w4.heap.size, 0, none⟩ = some (.string A.lo) := keep b5 (by simp [go_sem]) (by simp <;> omega)
  have x1 : w5.cell? ⟨w4.heap.size, 1, none⟩ = some (.string A.hi) := keep b5 (by simp [go_sem]) (by simp <;> omega)
  have x2 : w5.cell? ⟨w4.heap.size, 2, none⟩ = some (.bool A.all) := keep b5 (by simp [go_sem]) (by simp <;> omega)
  have y0 : w5.cell? ⟨w4.heap.size + 1, 0, none⟩ = some (.string B.lo) := keep b5 (by simp [go_sem]) (by simp)
  have y1 : w5.cell? ⟨w4.heap.size + 1, 1, none⟩ = some (.string B.hi) := keep b5 (by simp [go_sem]) (by simp)
  have y2 : w5.cell? ⟨w4.heap.size + 1, 2, none⟩ = some (.bool B.all) := keep b5 (by simp [go_sem]) (by simp)
  have B5 : Below w.heap.size w w5 := ((B4.alloc (by omega) _).alloc (by simp <;> omega) _).trans (b5.mono (by simp <;> omega))
  clear b5 B4 c0 c1 c2
  simp only [Sp.v]
  go_wp2_with fail
  refine (hasS _).mono ?_
  rintro e w6 ⟨rfl, b6⟩
  have hz6 := b6.size
  replace x0 := keep b6 x0 (by omega)
  replace x1 := keep b6 x1 (by omega)
  replace x2 := keep b6 x2 (by omega)
  replace y0 := keep b6 y0 (by omega)
  replace y1 := keep b6 y1 (by omega)
  replace y2 := keep b6 y2 (by omega)
  have B6 := B5.trans (b6.mono (by omega))
  clear b6 B5
  go_wp2_with fail
  refine (hasA _).mono ?_
  rintro e w7 ⟨rfl, b7⟩
  have hz7 := b7.size
  replace y0 := keep b7 y0 (by omega)
  replace y1 := keep b7 y1 (by omega)
  replace y2 := keep b7 y2 (by omega)
  have B7 := B6.trans (b7.mono (by omega))
  clear b7 B6
  go_wp2_with fail
  refine (hasB _).mono ?_
  rintro e w8 ⟨rfl, b8⟩
  go_wp2
  go_ret
  exact ⟨rfl, B7.trans (b8.mono (by omega))⟩
set_option maxHeartbeats 4000000 in
theorem cuts_4 (lo hi : ByteArray) (al : Bool) (at_ k : ByteArray) (w : World) (hs : (Sp.mk lo hi al).short = true) (d0 : decide ((1100 : Int) < (k.size : Int)) = false) (d1 : decide ((1100 : Int) < (at_.size : Int)) = false) (hh : (Sp.mk lo hi al).has k = false) (hl : bytesLess k.toList at_.toList = false) : Calls Try.prog 6 #[.agg #[.string lo, .string hi, .bool al], .string at_, .string k] w fun e w' => e = .returned (.bool true) ∧ Below w.heap.size w w' := by
  have hsh := @short_1 lo hi al true hs
  clear hs
  have hasA := has_any ((Sp.mk lo hi al).meet ⟨no, at_, false⟩) k
  have hasB := has_any ((Sp.mk lo hi al).meet ⟨at_, no, true⟩) k
  have hasS := has_any (Sp.mk lo hi al) k
  have hcut := cut_any (Sp.mk lo hi al) at_
  rw [has_below, hh, show lt k at_ = false from hl] at hasA
  rw [has_beyond, hh, show lt k at_ = false from hl] at hasB
  rw [hh] at hasS
  clear hh
  obtain ⟨A, hA⟩ : ∃ A, A = (Sp.mk lo hi al).meet ⟨no, at_, false⟩ := ⟨_, rfl⟩
  obtain ⟨B, hB⟩ : ∃ B, B = (Sp.mk lo hi al).meet ⟨at_, no, true⟩ := ⟨_, rfl⟩
  rw [← hA] at hasA hcut
  rw [← hB] at hasB hcut
  clear hA hB
  simp only [Sp.v] at hasA hasB hasS hcut
  simp only [Bool.and_true, Bool.and_false, Bool.not_false] at hasA hasB
  go_enter Try.func6, Try.ntmps6
  go_wp2_with fail
  refine (awake_any _).mono ?_
  rintro e w1 ⟨rfl, b1⟩
  have hz := b1.size
  simp at hz
  have c0 : w1.cell? ⟨w.heap.size, 0, none⟩ = some (.string lo) := keep b1 (by simp [go_sem]) (by simp)
  have c1 : w1.cell? ⟨w.heap.size, 1, none⟩ = some (.string hi) := keep b1 (by simp [go_sem]) (by simp)
  have c2 : w1.cell? ⟨w.heap.size, 2, none⟩ = some (.bool al) := keep b1 (by simp [go_sem]) (by simp)
  have B1 : Below w.heap.size w w1 := ((Below.refl _ _).alloc (Nat.le_refl _) _).trans (b1.mono (by simp))
  clear b1
  go_wp2_with fail
  refine (hsh _ _ _ (by simp [go_sem]) (by simp [go_sem])).mono ?_
  rintro e w2 ⟨rfl, b2⟩
  have hz2 := b2.size
  simp at hz2
  have hlt : w.heap.size < w1.heap.size := by omega
  replace c0 : w2.cell? ⟨w.heap.size, 0, none⟩ = some (.string lo) := keep b2 (by simp [go_sem, c0, hlt]) (by simp <;> omega)
  replace c1 : w2.cell? ⟨w.heap.size, 1, none⟩ = some (.string hi) := keep b2 (by simp [go_sem, c1, hlt]) (by simp <;> omega)
  replace c2 : w2.cell? ⟨w.heap.size, 2, none⟩ = some (.bool al) := keep b2 (by simp [go_sem, c2, hlt]) (by simp <;> omega)
  have B2 : Below w.heap.size w w2 := (B1.alloc (by omega) _).trans (b2.mono (by simp <;> omega))
  clear b2 B1
  go_wp2_with fail
  refine (of_any (Sp.mk lo hi al) _).mono ?_
  rintro e w3 ⟨rfl, b3⟩
  have hz3 := b3.size
  replace c0 := keep b3 c0 (by omega)
  replace c1 := keep b3 c1 (by omega)
  replace c2 := keep b3 c2 (by omega)
  have B3 := B2.trans (b3.mono (by omega))
  clear b3 B2
  simp only [Sp.v]
  go_wp2_with fail
  refine (hcut _).mono ?_
  rintro e w4 ⟨rfl, b4⟩
  have hz4 := b4.size
  replace c0 := keep b4 c0 (by omega)
  replace c1 := keep b4 c1 (by omega)
  replace c2 := keep b4 c2 (by omega)
  have B4 := B3.trans (b4.mono (by omega))
  have hlt4 : w.heap.size < w4.heap.size := by omega
  clear b4 B3
  go_wp2_with fail
  refine (of_any (Sp.mk lo hi al) _).mono ?_
  rintro e w5 ⟨rfl, b5⟩
  have hz5 := b5.size
  simp at hz5
  have x0 : w5.cell? ⟨w4.heap.size, 0, none⟩ = some (.string A.lo) := keep b5 (by simp [go_sem]) (by simp <;> omega)
  have x1 : w5.cell? ⟨w4.heap.size, 1, none⟩ = some (.string A.hi) := keep b5 (by simp [go_sem]) (by simp <;> omega)
  have x2 : w5.cell? ⟨w4.heap.size, 2, none⟩ = some (.bool A.all) := keep b5 (by simp [go_sem]) (by simp <;> omega)
  have y0 : w5.cell? ⟨w4.heap.size + 1, 0, none⟩ = some (.string B.lo) := keep b5 (by simp [go_sem]) (by simp)
  have y1 : w5.cell? ⟨w4.heap.size + 1, 1, none⟩ = some (.string B.hi) := keep b5 (by simp [go_sem]) (by simp)
  have y2 : w5.cell? ⟨w4.heap.size + 1, 2, none⟩ = some (.bool B.all) := keep b5 (by simp [go_sem]) (by simp)
  have B5 : Below w.heap.size w w5 := ((B4.alloc (by omega) _).alloc (by simp <;> omega) _).trans (b5.mono (by simp <;> omega))
  clear b5 B4 c0 c1 c2
  simp only [Sp.v]
  go_wp2_with fail
  refine (hasS _).mono ?_
  rintro e w6 ⟨rfl, b6⟩
  have hz6 := b6.size
  replace x0 := keep b6 x0 (by omega)
  replace x1 := keep b6 x1 (by omega)
  replace x2 := keep b6 x2 (by omega)
  replace y0 := keep b6 y0 (by omega)
  replace y1 := keep b6 y1 (by omega)
  replace y2 := keep b6 y2 (by omega)
  have B6 := B5.trans (b6.mono (by omega))
  clear b6 B5
  go_wp2_with fail
  refine (hasA _).mono ?_
  rintro e w7 ⟨rfl, b7⟩
  have hz7 := b7.size
  replace y0 := keep b7 y0 (by omega)
  replace y1 := keep b7 y1 (by omega)
  replace y2 := keep b7 y2 (by omega)
  have B7 := B6.trans (b7.mono (by omega))
  clear b7 B6
  go_wp2_with fail
  refine (hasB _).mono ?_
  rintro e w8 ⟨rfl, b8⟩
  go_wp2
  go_ret
  exact ⟨rfl, B7.trans (b8.mono (by omega))⟩
theorem cutsLaw_any (s : Sp) (at_ k : ByteArray) (w : World) : Calls Try.prog 6 #[s.v, .string at_, .string k] w fun e w' => e = .returned (.bool true) ∧ Below w.heap.size w w' := by
  obtain ⟨lo, hi, al⟩ := s
  cases hs : (Sp.mk lo hi al).short with
  | false => exact cuts_s lo hi al at_ k w hs
  | true =>
    cases d0 : decide ((1100 : Int) < (k.size : Int)) with
    | true => exact cuts_k lo hi al at_ k w hs d0
    | false =>
      cases d1 : decide ((1100 : Int) < (at_.size : Int)) with
      | true => exact cuts_a lo hi al at_ k w hs d0 d1
      | false =>
        cases hh : (Sp.mk lo hi al).has k <;> cases hl : bytesLess k.toList at_.toList
        · exact cuts_4 lo hi al at_ k w hs d0 d1 hh hl
        · exact cuts_3 lo hi al at_ k w hs d0 d1 hh hl
        · exact cuts_2 lo hi al at_ k w hs d0 d1 hh hl
        · exact cuts_1 lo hi al at_ k w hs d0 d1 hh hl
end Go.Proofs.Ytkafbjnhjmlabaa
