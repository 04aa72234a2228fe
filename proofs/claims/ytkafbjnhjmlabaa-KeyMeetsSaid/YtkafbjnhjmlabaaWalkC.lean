/- What Meet answers of two spans: of the program, of the reference. Condition: the reference's texts have at most 1000000 bytes. -/
import Derived.Test.YtkafbjnhjmlabaaWalkB
namespace Go.Proofs.Ytkafbjnhjmlabaa
open Go.RowKit Go.Op
set_option maxRecDepth 100000

theorem run_max (w : World) (ts : Array TypeId) (t : TypeId) (x y : ByteArray) : (Builtin.max_ ts t #[.string x, .string y]).run Try.prog w = .ok (.string (mx x y)) w := by
  rw [Lib.run_max_strs]
  unfold Lib.maxS mx lt
  rw [Proofs.bytesLess_eq, Lib.toList_data, Lib.toList_data]
  simp
theorem run_min (w : World) (ts : Array TypeId) (t : TypeId) (x y : ByteArray) : (Builtin.min_ ts t #[.string x, .string y]).run Try.prog w = .ok (.string (mn x y)) w := by
  rw [Lib.run_min_strs]
  congr 2
  unfold Lib.minS mn
  have h := Proofs.bytesLess_eq x.data.toList y.data.toList
  rcases tri x y with ⟨h1, h2, h3⟩ | ⟨h1, h2, h3⟩ | ⟨h1, h2, h3⟩
  all_goals
    rw [show lt y x = bytesLess y.toList x.toList from rfl, h2]
    rw [Lib.toList_data, Lib.toList_data] at h1
    rw [h1] at h
  · have := of_decide_eq_true h.symm
    rw [if_pos (.inl this)]
    rfl
  · rw [Lib.toList_data, Lib.toList_data, beq_iff_eq] at h3
    rw [if_pos (.inr h3)]
    rfl
  · have := of_decide_eq_false h.symm
    rw [Lib.toList_data, Lib.toList_data, beq_eq_false_iff_ne] at h3
    rw [if_neg (by rintro (h | h); exact this h; exact h3 h)]
    rfl

set_option maxHeartbeats 2000000 in
theorem meet_any (a b : Sp) (w : World) : Calls Try.prog 20 #[a.v, b.v] w fun e w' => e = .returned (a.meet b).v ∧ Below w.heap.size w w' := by
  obtain ⟨al, ah, aa⟩ := a
  obtain ⟨bl, bh, ba⟩ := b
  simp only [Sp.v, Sp.meet]
  have hmx := fun W ts t => run_max W ts t al bl
  have hmn := fun W ts t => run_min W ts t ah bh
  have B := ((((Below.refl w.heap.size w).alloc (Nat.le_refl _) (.cells #[.string al, .string ah, .bool aa] 30)).alloc (by simp) (.cells #[.string bl, .string bh, .bool ba] 30)))
  have E := Lib.hid B
  clear B
  cases aa <;> cases ba
  · go_enter Try.func20, Try.ntmps20
    go_wp2
    refine bodyPost_ret (v := .agg #[.string (mx al bl), .string (mn ah bh), .bool false]) (by simp [results, Try.results20, go_sem]) rfl ⟨by simp, ?_⟩
    exact (E.out.alloc (by simp <;> omega) _).alloc (by simp <;> omega) _
  · go_enter Try.func20, Try.ntmps20
    go_wp2
    refine bodyPost_ret (v := .agg #[.string (mx al bl), .string (ah), .bool false]) (by simp [results, Try.results20, go_sem]) rfl ⟨by simp, ?_⟩
    exact (E.out.alloc (by simp <;> omega) _).alloc (by simp <;> omega) _
  · go_enter Try.func20, Try.ntmps20
    go_wp2
    refine bodyPost_ret (v := .agg #[.string (mx al bl), .string (bh), .bool false]) (by simp [results, Try.results20, go_sem]) rfl ⟨by simp, ?_⟩
    exact (E.out.alloc (by simp <;> omega) _).alloc (by simp <;> omega) _
  · go_enter Try.func20, Try.ntmps20
    go_wp2
    refine bodyPost_ret (v := .agg #[.string (mx al bl), .string (no), .bool true]) (by simp [results, Try.results20, go_sem, no]) rfl ⟨by simp [no], ?_⟩
    exact (E.out.alloc (by simp <;> omega) _).alloc (by simp <;> omega) _

set_option maxHeartbeats 4000000 in
theorem refmeet1 (al ah bl bh : ByteArray) (s1 : al.size ≤ 1000000) (s2 : ah.size ≤ 1000000) (s3 : bl.size ≤ 1000000) (s4 : bh.size ≤ 1000000) (w : World) (g1 : lt al bl = true) (g2 : lt bh ah = true) :
    Calls Try.prog 22 #[.agg #[.string al, .string ah, .bool false], .agg #[.string bl, .string bh, .bool false]] w fun e w' => e = .returned (.agg #[.string bl, .string bh, .bool false]) ∧ Below w.heap.size w w' := by
    have hl := less_any al bl s1 s3
    rw [g1] at hl
    clear g1
    have hm := less_any bh ah s4 s2
    rw [g2] at hm
    clear g2
    clear s1 s2 s3 s4
    go_enter Try.func22, Try.ntmps22
    go_wp2_with fail
    refine (hl _).mono ?_
    rintro e w1 ⟨rfl, b1⟩
    have hz := b1.size
    simp at hz
    have c1_0_0 : w1.cell? ⟨w.heap.size, 0, none⟩ = some (.string al) := keep b1 (by simp [go_sem]) (by simp <;> omega)
    have c1_0_1 : w1.cell? ⟨w.heap.size, 1, none⟩ = some (.string ah) := keep b1 (by simp [go_sem]) (by simp <;> omega)
    have c1_0_2 : w1.cell? ⟨w.heap.size, 2, none⟩ = some (.bool false) := keep b1 (by simp [go_sem]) (by simp <;> omega)
    have c1_1_0 : w1.cell? ⟨w.heap.size + 1, 0, none⟩ = some (.string bl) := keep b1 (by simp [go_sem]) (by simp <;> omega)
    have c1_1_1 : w1.cell? ⟨w.heap.size + 1, 1, none⟩ = some (.string bh) := keep b1 (by simp [go_sem]) (by simp <;> omega)
    have c1_1_2 : w1.cell? ⟨w.heap.size + 1, 2, none⟩ = some (.bool false) := keep b1 (by simp [go_sem]) (by simp <;> omega)
    have c1_2_0 : w1.cell? ⟨w.heap.size + 2, 0, none⟩ = some (.string ⟨#[]⟩) := keep b1 (by simp [go_sem]) (by simp <;> omega)
    have f1_2_0 : w1.frozen? ⟨w.heap.size + 2, 0, none⟩ = false := fkeep b1 (by simp [go_sem]) (by simp <;> omega)
    have c1_2_1 : w1.cell? ⟨w.heap.size + 2, 1, none⟩ = some (.string ⟨#[]⟩) := keep b1 (by simp [go_sem]) (by simp <;> omega)
    have f1_2_1 : w1.frozen? ⟨w.heap.size + 2, 1, none⟩ = false := fkeep b1 (by simp [go_sem]) (by simp <;> omega)
    have c1_2_2 : w1.cell? ⟨w.heap.size + 2, 2, none⟩ = some (.bool false) := keep b1 (by simp [go_sem]) (by simp <;> omega)
    have f1_2_2 : w1.frozen? ⟨w.heap.size + 2, 2, none⟩ = false := fkeep b1 (by simp [go_sem]) (by simp <;> omega)
    have c1_3_0 : w1.cell? ⟨w.heap.size + 3, 0, none⟩ = some (.string al) := keep b1 (by simp [go_sem]) (by simp <;> omega)
    have f1_3_0 : w1.frozen? ⟨w.heap.size + 3, 0, none⟩ = false := fkeep b1 (by simp [go_sem]) (by simp <;> omega)
    have c1_3_1 : w1.cell? ⟨w.heap.size + 3, 1, none⟩ = some (.string ⟨#[]⟩) := keep b1 (by simp [go_sem]) (by simp <;> omega)
    have f1_3_1 : w1.frozen? ⟨w.heap.size + 3, 1, none⟩ = false := fkeep b1 (by simp [go_sem]) (by simp <;> omega)
    have c1_3_2 : w1.cell? ⟨w.heap.size + 3, 2, none⟩ = some (.bool false) := keep b1 (by simp [go_sem]) (by simp <;> omega)
    have f1_3_2 : w1.frozen? ⟨w.heap.size + 3, 2, none⟩ = false := fkeep b1 (by simp [go_sem]) (by simp <;> omega)
    have B1 : Below w.heap.size w w1 := (((((Below.refl _ _).alloc (Nat.le_refl _) _).alloc (by simp) _).alloc (by simp <;> omega) _).alloc (by simp <;> omega) _).trans (b1.mono (by simp <;> omega))
    clear b1
    go_wp2_with fail
    refine (hm _).mono ?_
    rintro e w2 ⟨rfl, b2⟩
    have hz2 := b2.size
    simp at hz2
    have c2_0_0 : w2.cell? ⟨w.heap.size, 0, none⟩ = some (.string al) := keep b2 (by simp [go_sem, *]) (by simp <;> omega)
    have c2_0_1 : w2.cell? ⟨w.heap.size, 1, none⟩ = some (.string ah) := keep b2 (by simp [go_sem, *]) (by simp <;> omega)
    have c2_0_2 : w2.cell? ⟨w.heap.size, 2, none⟩ = some (.bool false) := keep b2 (by simp [go_sem, *]) (by simp <;> omega)
    have c2_1_0 : w2.cell? ⟨w.heap.size + 1, 0, none⟩ = some (.string bl) := keep b2 (by simp [go_sem, *]) (by simp <;> omega)
    have c2_1_1 : w2.cell? ⟨w.heap.size + 1, 1, none⟩ = some (.string bh) := keep b2 (by simp [go_sem, *]) (by simp <;> omega)
    have c2_1_2 : w2.cell? ⟨w.heap.size + 1, 2, none⟩ = some (.bool false) := keep b2 (by simp [go_sem, *]) (by simp <;> omega)
    have c2_2_0 : w2.cell? ⟨w.heap.size + 2, 0, none⟩ = some (.string ⟨#[]⟩) := keep b2 (by simp [go_sem, *]) (by simp <;> omega)
    have f2_2_0 : w2.frozen? ⟨w.heap.size + 2, 0, none⟩ = false := fkeep b2 (by simp [go_sem, *]) (by simp <;> omega)
    have c2_2_1 : w2.cell? ⟨w.heap.size + 2, 1, none⟩ = some (.string ⟨#[]⟩) := keep b2 (by simp [go_sem, *]) (by simp <;> omega)
    have f2_2_1 : w2.frozen? ⟨w.heap.size + 2, 1, none⟩ = false := fkeep b2 (by simp [go_sem, *]) (by simp <;> omega)
    have c2_2_2 : w2.cell? ⟨w.heap.size + 2, 2, none⟩ = some (.bool false) := keep b2 (by simp [go_sem, *]) (by simp <;> omega)
    have f2_2_2 : w2.frozen? ⟨w.heap.size + 2, 2, none⟩ = false := fkeep b2 (by simp [go_sem, *]) (by simp <;> omega)
    have c2_3_0 : w2.cell? ⟨w.heap.size + 3, 0, none⟩ = some (.string bl) := keep b2 (by simp [go_sem, *]) (by simp <;> omega)
    have f2_3_0 : w2.frozen? ⟨w.heap.size + 3, 0, none⟩ = false := fkeep b2 (by simp [go_sem, *]) (by simp <;> omega)
    have c2_3_1 : w2.cell? ⟨w.heap.size + 3, 1, none⟩ = some (.string ah) := keep b2 (by simp [go_sem, *]) (by simp <;> omega)
    have f2_3_1 : w2.frozen? ⟨w.heap.size + 3, 1, none⟩ = false := fkeep b2 (by simp [go_sem, *]) (by simp <;> omega)
    have c2_3_2 : w2.cell? ⟨w.heap.size + 3, 2, none⟩ = some (.bool false) := keep b2 (by simp [go_sem, *]) (by simp <;> omega)
    have f2_3_2 : w2.frozen? ⟨w.heap.size + 3, 2, none⟩ = false := fkeep b2 (by simp [go_sem, *]) (by simp <;> omega)
    have B2 : Below w.heap.size w w2 := ((B1.setCell (by simp <;> omega) _).setCell (by simp <;> omega) _).trans (b2.mono (by simp <;> omega))
    clear b2
    clear c1_0_0 c1_0_1 c1_0_2 c1_1_0 c1_1_1 c1_1_2 c1_2_0 c1_2_1 c1_2_2 c1_3_0 c1_3_1 c1_3_2 f1_2_0 f1_2_1 f1_2_2 f1_3_0 f1_3_1 f1_3_2
    go_wp2
    exact bodyPost_ret (v := .agg #[.string bl, .string bh, .bool false]) (by simp [results, Try.results22, go_sem, *]) rfl ⟨rfl, ((((B2.setCell (by simp <;> omega) _).setCell (by simp <;> omega) _).setCell (by simp <;> omega) _).setCell (by simp <;> omega) _)⟩

set_option maxHeartbeats 4000000 in
theorem refmeet2 (al ah bl bh : ByteArray) (s1 : al.size ≤ 1000000) (s2 : ah.size ≤ 1000000) (s3 : bl.size ≤ 1000000) (s4 : bh.size ≤ 1000000) (w : World) (g1 : lt al bl = true) (g2 : lt bh ah = false) :
    Calls Try.prog 22 #[.agg #[.string al, .string ah, .bool false], .agg #[.string bl, .string bh, .bool false]] w fun e w' => e = .returned (.agg #[.string bl, .string ah, .bool false]) ∧ Below w.heap.size w w' := by
    have hl := less_any al bl s1 s3
    rw [g1] at hl
    clear g1
    have hm := less_any bh ah s4 s2
    rw [g2] at hm
    clear g2
    clear s1 s2 s3 s4
    go_enter Try.func22, Try.ntmps22
    go_wp2_with fail
    refine (hl _).mono ?_
    rintro e w1 ⟨rfl, b1⟩
    have hz := b1.size
    simp at hz
    have c1_0_0 : w1.cell? ⟨w.heap.size, 0, none⟩ = some (.string al) := keep b1 (by simp [go_sem]) (by simp <;> omega)
    have c1_0_1 : w1.cell? ⟨w.heap.size, 1, none⟩ = some (.string ah) := keep b1 (by simp [go_sem]) (by simp <;> omega)
    have c1_0_2 : w1.cell? ⟨w.heap.size, 2, none⟩ = some (.bool false) := keep b1 (by simp [go_sem]) (by simp <;> omega)
    have c1_1_0 : w1.cell? ⟨w.heap.size + 1, 0, none⟩ = some (.string bl) := keep b1 (by simp [go_sem]) (by simp <;> omega)
    have c1_1_1 : w1.cell? ⟨w.heap.size + 1, 1, none⟩ = some (.string bh) := keep b1 (by simp [go_sem]) (by simp <;> omega)
    have c1_1_2 : w1.cell? ⟨w.heap.size + 1, 2, none⟩ = some (.bool false) := keep b1 (by simp [go_sem]) (by simp <;> omega)
    have c1_2_0 : w1.cell? ⟨w.heap.size + 2, 0, none⟩ = some (.string ⟨#[]⟩) := keep b1 (by simp [go_sem]) (by simp <;> omega)
    have f1_2_0 : w1.frozen? ⟨w.heap.size + 2, 0, none⟩ = false := fkeep b1 (by simp [go_sem]) (by simp <;> omega)
    have c1_2_1 : w1.cell? ⟨w.heap.size + 2, 1, none⟩ = some (.string ⟨#[]⟩) := keep b1 (by simp [go_sem]) (by simp <;> omega)
    have f1_2_1 : w1.frozen? ⟨w.heap.size + 2, 1, none⟩ = false := fkeep b1 (by simp [go_sem]) (by simp <;> omega)
    have c1_2_2 : w1.cell? ⟨w.heap.size + 2, 2, none⟩ = some (.bool false) := keep b1 (by simp [go_sem]) (by simp <;> omega)
    have f1_2_2 : w1.frozen? ⟨w.heap.size + 2, 2, none⟩ = false := fkeep b1 (by simp [go_sem]) (by simp <;> omega)
    have c1_3_0 : w1.cell? ⟨w.heap.size + 3, 0, none⟩ = some (.string al) := keep b1 (by simp [go_sem]) (by simp <;> omega)
    have f1_3_0 : w1.frozen? ⟨w.heap.size + 3, 0, none⟩ = false := fkeep b1 (by simp [go_sem]) (by simp <;> omega)
    have c1_3_1 : w1.cell? ⟨w.heap.size + 3, 1, none⟩ = some (.string ⟨#[]⟩) := keep b1 (by simp [go_sem]) (by simp <;> omega)
    have f1_3_1 : w1.frozen? ⟨w.heap.size + 3, 1, none⟩ = false := fkeep b1 (by simp [go_sem]) (by simp <;> omega)
    have c1_3_2 : w1.cell? ⟨w.heap.size + 3, 2, none⟩ = some (.bool false) := keep b1 (by simp [go_sem]) (by simp <;> omega)
    have f1_3_2 : w1.frozen? ⟨w.heap.size + 3, 2, none⟩ = false := fkeep b1 (by simp [go_sem]) (by simp <;> omega)
    have B1 : Below w.heap.size w w1 := (((((Below.refl _ _).alloc (Nat.le_refl _) _).alloc (by simp) _).alloc (by simp <;> omega) _).alloc (by simp <;> omega) _).trans (b1.mono (by simp <;> omega))
    clear b1
    go_wp2_with fail
    refine (hm _).mono ?_
    rintro e w2 ⟨rfl, b2⟩
    have hz2 := b2.size
    simp at hz2
    have c2_0_0 : w2.cell? ⟨w.heap.size, 0, none⟩ = some (.string al) := keep b2 (by simp [go_sem, *]) (by simp <;> omega)
    have c2_0_1 : w2.cell? ⟨w.heap.size, 1, none⟩ = some (.string ah) := keep b2 (by simp [go_sem, *]) (by simp <;> omega)
    have c2_0_2 : w2.cell? ⟨w.heap.size, 2, none⟩ = some (.bool false) := keep b2 (by simp [go_sem, *]) (by simp <;> omega)
    have c2_1_0 : w2.cell? ⟨w.heap.size + 1, 0, none⟩ = some (.string bl) := keep b2 (by simp [go_sem, *]) (by simp <;> omega)
    have c2_1_1 : w2.cell? ⟨w.heap.size + 1, 1, none⟩ = some (.string bh) := keep b2 (by simp [go_sem, *]) (by simp <;> omega)
    have c2_1_2 : w2.cell? ⟨w.heap.size + 1, 2, none⟩ = some (.bool false) := keep b2 (by simp [go_sem, *]) (by simp <;> omega)
    have c2_2_0 : w2.cell? ⟨w.heap.size + 2, 0, none⟩ = some (.string ⟨#[]⟩) := keep b2 (by simp [go_sem, *]) (by simp <;> omega)
    have f2_2_0 : w2.frozen? ⟨w.heap.size + 2, 0, none⟩ = false := fkeep b2 (by simp [go_sem, *]) (by simp <;> omega)
    have c2_2_1 : w2.cell? ⟨w.heap.size + 2, 1, none⟩ = some (.string ⟨#[]⟩) := keep b2 (by simp [go_sem, *]) (by simp <;> omega)
    have f2_2_1 : w2.frozen? ⟨w.heap.size + 2, 1, none⟩ = false := fkeep b2 (by simp [go_sem, *]) (by simp <;> omega)
    have c2_2_2 : w2.cell? ⟨w.heap.size + 2, 2, none⟩ = some (.bool false) := keep b2 (by simp [go_sem, *]) (by simp <;> omega)
    have f2_2_2 : w2.frozen? ⟨w.heap.size + 2, 2, none⟩ = false := fkeep b2 (by simp [go_sem, *]) (by simp <;> omega)
    have c2_3_0 : w2.cell? ⟨w.heap.size + 3, 0, none⟩ = some (.string bl) := keep b2 (by simp [go_sem, *]) (by simp <;> omega)
    have f2_3_0 : w2.frozen? ⟨w.heap.size + 3, 0, none⟩ = false := fkeep b2 (by simp [go_sem, *]) (by simp <;> omega)
    have c2_3_1 : w2.cell? ⟨w.heap.size + 3, 1, none⟩ = some (.string ah) := keep b2 (by simp [go_sem, *]) (by simp <;> omega)
    have f2_3_1 : w2.frozen? ⟨w.heap.size + 3, 1, none⟩ = false := fkeep b2 (by simp [go_sem, *]) (by simp <;> omega)
    have c2_3_2 : w2.cell? ⟨w.heap.size + 3, 2, none⟩ = some (.bool false) := keep b2 (by simp [go_sem, *]) (by simp <;> omega)
    have f2_3_2 : w2.frozen? ⟨w.heap.size + 3, 2, none⟩ = false := fkeep b2 (by simp [go_sem, *]) (by simp <;> omega)
    have B2 : Below w.heap.size w w2 := ((B1.setCell (by simp <;> omega) _).setCell (by simp <;> omega) _).trans (b2.mono (by simp <;> omega))
    clear b2
    clear c1_0_0 c1_0_1 c1_0_2 c1_1_0 c1_1_1 c1_1_2 c1_2_0 c1_2_1 c1_2_2 c1_3_0 c1_3_1 c1_3_2 f1_2_0 f1_2_1 f1_2_2 f1_3_0 f1_3_1 f1_3_2
    go_wp2
    exact bodyPost_ret (v := .agg #[.string bl, .string ah, .bool false]) (by simp [results, Try.results22, go_sem, *]) rfl ⟨rfl, (((B2.setCell (by simp <;> omega) _).setCell (by simp <;> omega) _).setCell (by simp <;> omega) _)⟩

set_option maxHeartbeats 4000000 in
theorem refmeet3 (al ah bl bh : ByteArray) (s1 : al.size ≤ 1000000) (s2 : ah.size ≤ 1000000) (s3 : bl.size ≤ 1000000) (s4 : bh.size ≤ 1000000) (w : World) (g1 : lt al bl = false) (g2 : lt bh ah = true) :
    Calls Try.prog 22 #[.agg #[.string al, .string ah, .bool false], .agg #[.string bl, .string bh, .bool false]] w fun e w' => e = .returned (.agg #[.string al, .string bh, .bool false]) ∧ Below w.heap.size w w' := by
    have hl := less_any al bl s1 s3
    rw [g1] at hl
    clear g1
    have hm := less_any bh ah s4 s2
    rw [g2] at hm
    clear g2
    clear s1 s2 s3 s4
    go_enter Try.func22, Try.ntmps22
    go_wp2_with fail
    refine (hl _).mono ?_
    rintro e w1 ⟨rfl, b1⟩
    have hz := b1.size
    simp at hz
    have c1_0_0 : w1.cell? ⟨w.heap.size, 0, none⟩ = some (.string al) := keep b1 (by simp [go_sem]) (by simp <;> omega)
    have c1_0_1 : w1.cell? ⟨w.heap.size, 1, none⟩ = some (.string ah) := keep b1 (by simp [go_sem]) (by simp <;> omega)
    have c1_0_2 : w1.cell? ⟨w.heap.size, 2, none⟩ = some (.bool false) := keep b1 (by simp [go_sem]) (by simp <;> omega)
    have c1_1_0 : w1.cell? ⟨w.heap.size + 1, 0, none⟩ = some (.string bl) := keep b1 (by simp [go_sem]) (by simp <;> omega)
    have c1_1_1 : w1.cell? ⟨w.heap.size + 1, 1, none⟩ = some (.string bh) := keep b1 (by simp [go_sem]) (by simp <;> omega)
    have c1_1_2 : w1.cell? ⟨w.heap.size + 1, 2, none⟩ = some (.bool false) := keep b1 (by simp [go_sem]) (by simp <;> omega)
    have c1_2_0 : w1.cell? ⟨w.heap.size + 2, 0, none⟩ = some (.string ⟨#[]⟩) := keep b1 (by simp [go_sem]) (by simp <;> omega)
    have f1_2_0 : w1.frozen? ⟨w.heap.size + 2, 0, none⟩ = false := fkeep b1 (by simp [go_sem]) (by simp <;> omega)
    have c1_2_1 : w1.cell? ⟨w.heap.size + 2, 1, none⟩ = some (.string ⟨#[]⟩) := keep b1 (by simp [go_sem]) (by simp <;> omega)
    have f1_2_1 : w1.frozen? ⟨w.heap.size + 2, 1, none⟩ = false := fkeep b1 (by simp [go_sem]) (by simp <;> omega)
    have c1_2_2 : w1.cell? ⟨w.heap.size + 2, 2, none⟩ = some (.bool false) := keep b1 (by simp [go_sem]) (by simp <;> omega)
    have f1_2_2 : w1.frozen? ⟨w.heap.size + 2, 2, none⟩ = false := fkeep b1 (by simp [go_sem]) (by simp <;> omega)
    have c1_3_0 : w1.cell? ⟨w.heap.size + 3, 0, none⟩ = some (.string al) := keep b1 (by simp [go_sem]) (by simp <;> omega)
    have f1_3_0 : w1.frozen? ⟨w.heap.size + 3, 0, none⟩ = false := fkeep b1 (by simp [go_sem]) (by simp <;> omega)
    have c1_3_1 : w1.cell? ⟨w.heap.size + 3, 1, none⟩ = some (.string ⟨#[]⟩) := keep b1 (by simp [go_sem]) (by simp <;> omega)
    have f1_3_1 : w1.frozen? ⟨w.heap.size + 3, 1, none⟩ = false := fkeep b1 (by simp [go_sem]) (by simp <;> omega)
    have c1_3_2 : w1.cell? ⟨w.heap.size + 3, 2, none⟩ = some (.bool false) := keep b1 (by simp [go_sem]) (by simp <;> omega)
    have f1_3_2 : w1.frozen? ⟨w.heap.size + 3, 2, none⟩ = false := fkeep b1 (by simp [go_sem]) (by simp <;> omega)
    have B1 : Below w.heap.size w w1 := (((((Below.refl _ _).alloc (Nat.le_refl _) _).alloc (by simp) _).alloc (by simp <;> omega) _).alloc (by simp <;> omega) _).trans (b1.mono (by simp <;> omega))
    clear b1
    go_wp2_with fail
    refine (hm _).mono ?_
    rintro e w2 ⟨rfl, b2⟩
    have hz2 := b2.size
    simp at hz2
    have c2_0_0 : w2.cell? ⟨w.heap.size, 0, none⟩ = some (.string al) := keep b2 (by simp [go_sem, *]) (by simp <;> omega)
    have c2_0_1 : w2.cell? ⟨w.heap.size, 1, none⟩ = some (.string ah) := keep b2 (by simp [go_sem, *]) (by simp <;> omega)
    have c2_0_2 : w2.cell? ⟨w.heap.size, 2, none⟩ = some (.bool false) := keep b2 (by simp [go_sem, *]) (by simp <;> omega)
    have c2_1_0 : w2.cell? ⟨w.heap.size + 1, 0, none⟩ = some (.string bl) := keep b2 (by simp [go_sem, *]) (by simp <;> omega)
    have c2_1_1 : w2.cell? ⟨w.heap.size + 1, 1, none⟩ = some (.string bh) := keep b2 (by simp [go_sem, *]) (by simp <;> omega)
    have c2_1_2 : w2.cell? ⟨w.heap.size + 1, 2, none⟩ = some (.bool false) := keep b2 (by simp [go_sem, *]) (by simp <;> omega)
    have c2_2_0 : w2.cell? ⟨w.heap.size + 2, 0, none⟩ = some (.string ⟨#[]⟩) := keep b2 (by simp [go_sem, *]) (by simp <;> omega)
    have f2_2_0 : w2.frozen? ⟨w.heap.size + 2, 0, none⟩ = false := fkeep b2 (by simp [go_sem, *]) (by simp <;> omega)
    have c2_2_1 : w2.cell? ⟨w.heap.size + 2, 1, none⟩ = some (.string ⟨#[]⟩) := keep b2 (by simp [go_sem, *]) (by simp <;> omega)
    have f2_2_1 : w2.frozen? ⟨w.heap.size + 2, 1, none⟩ = false := fkeep b2 (by simp [go_sem, *]) (by simp <;> omega)
    have c2_2_2 : w2.cell? ⟨w.heap.size + 2, 2, none⟩ = some (.bool false) := keep b2 (by simp [go_sem, *]) (by simp <;> omega)
    have f2_2_2 : w2.frozen? ⟨w.heap.size + 2, 2, none⟩ = false := fkeep b2 (by simp [go_sem, *]) (by simp <;> omega)
    have c2_3_0 : w2.cell? ⟨w.heap.size + 3, 0, none⟩ = some (.string al) := keep b2 (by simp [go_sem, *]) (by simp <;> omega)
    have f2_3_0 : w2.frozen? ⟨w.heap.size + 3, 0, none⟩ = false := fkeep b2 (by simp [go_sem, *]) (by simp <;> omega)
    have c2_3_1 : w2.cell? ⟨w.heap.size + 3, 1, none⟩ = some (.string ah) := keep b2 (by simp [go_sem, *]) (by simp <;> omega)
    have f2_3_1 : w2.frozen? ⟨w.heap.size + 3, 1, none⟩ = false := fkeep b2 (by simp [go_sem, *]) (by simp <;> omega)
    have c2_3_2 : w2.cell? ⟨w.heap.size + 3, 2, none⟩ = some (.bool false) := keep b2 (by simp [go_sem, *]) (by simp <;> omega)
    have f2_3_2 : w2.frozen? ⟨w.heap.size + 3, 2, none⟩ = false := fkeep b2 (by simp [go_sem, *]) (by simp <;> omega)
    have B2 : Below w.heap.size w w2 := (B1.setCell (by simp <;> omega) _).trans (b2.mono (by simp <;> omega))
    clear b2
    clear c1_0_0 c1_0_1 c1_0_2 c1_1_0 c1_1_1 c1_1_2 c1_2_0 c1_2_1 c1_2_2 c1_3_0 c1_3_1 c1_3_2 f1_2_0 f1_2_1 f1_2_2 f1_3_0 f1_3_1 f1_3_2
    go_wp2
    exact bodyPost_ret (v := .agg #[.string al, .string bh, .bool false]) (by simp [results, Try.results22, go_sem, *]) rfl ⟨rfl, ((((B2.setCell (by simp <;> omega) _).setCell (by simp <;> omega) _).setCell (by simp <;> omega) _).setCell (by simp <;> omega) _)⟩

set_option maxHeartbeats 4000000 in
theorem refmeet4 (al ah bl bh : ByteArray) (s1 : al.size ≤ 1000000) (s2 : ah.size ≤ 1000000) (s3 : bl.size ≤ 1000000) (s4 : bh.size ≤ 1000000) (w : World) (g1 : lt al bl = false) (g2 : lt bh ah = false) :
    Calls Try.prog 22 #[.agg #[.string al, .string ah, .bool false], .agg #[.string bl, .string bh, .bool false]] w fun e w' => e = .returned (.agg #[.string al, .string ah, .bool false]) ∧ Below w.heap.size w w' := by
    have hl := less_any al bl s1 s3
    rw [g1] at hl
    clear g1
    have hm := less_any bh ah s4 s2
    rw [g2] at hm
    clear g2
    clear s1 s2 s3 s4
    go_enter Try.func22, Try.ntmps22
    go_wp2_with fail
    refine (hl _).mono ?_
    rintro e w1 ⟨rfl, b1⟩
    have hz := b1.size
    simp at hz
    have c1_0_0 : w1.cell? ⟨w.heap.size, 0, none⟩ = some (.string al) := keep b1 (by simp [go_sem]) (by simp <;> omega)
    have c1_0_1 : w1.cell? ⟨w.heap.size, 1, none⟩ = some (.string ah) := keep b1 (by simp [go_sem]) (by simp <;> omega)
    have c1_0_2 : w1.cell? ⟨w.heap.size, 2, none⟩ = some (.bool false) := keep b1 (by simp [go_sem]) (by simp <;> omega)
    have c1_1_0 : w1.cell? ⟨w.heap.size + 1, 0, none⟩ = some (.string bl) := keep b1 (by simp [go_sem]) (by simp <;> omega)
    have c1_1_1 : w1.cell? ⟨w.heap.size + 1, 1, none⟩ = some (.string bh) := keep b1 (by simp [go_sem]) (by simp <;> omega)
    have c1_1_2 : w1.cell? ⟨w.heap.size + 1, 2, none⟩ = some (.bool false) := keep b1 (by simp [go_sem]) (by simp <;> omega)
    have c1_2_0 : w1.cell? ⟨w.heap.size + 2, 0, none⟩ = some (.string ⟨#[]⟩) := keep b1 (by simp [go_sem]) (by simp <;> omega)
    have f1_2_0 : w1.frozen? ⟨w.heap.size + 2, 0, none⟩ = false := fkeep b1 (by simp [go_sem]) (by simp <;> omega)
    have c1_2_1 : w1.cell? ⟨w.heap.size + 2, 1, none⟩ = some (.string ⟨#[]⟩) := keep b1 (by simp [go_sem]) (by simp <;> omega)
    have f1_2_1 : w1.frozen? ⟨w.heap.size + 2, 1, none⟩ = false := fkeep b1 (by simp [go_sem]) (by simp <;> omega)
    have c1_2_2 : w1.cell? ⟨w.heap.size + 2, 2, none⟩ = some (.bool false) := keep b1 (by simp [go_sem]) (by simp <;> omega)
    have f1_2_2 : w1.frozen? ⟨w.heap.size + 2, 2, none⟩ = false := fkeep b1 (by simp [go_sem]) (by simp <;> omega)
    have c1_3_0 : w1.cell? ⟨w.heap.size + 3, 0, none⟩ = some (.string al) := keep b1 (by simp [go_sem]) (by simp <;> omega)
    have f1_3_0 : w1.frozen? ⟨w.heap.size + 3, 0, none⟩ = false := fkeep b1 (by simp [go_sem]) (by simp <;> omega)
    have c1_3_1 : w1.cell? ⟨w.heap.size + 3, 1, none⟩ = some (.string ⟨#[]⟩) := keep b1 (by simp [go_sem]) (by simp <;> omega)
    have f1_3_1 : w1.frozen? ⟨w.heap.size + 3, 1, none⟩ = false := fkeep b1 (by simp [go_sem]) (by simp <;> omega)
    have c1_3_2 : w1.cell? ⟨w.heap.size + 3, 2, none⟩ = some (.bool false) := keep b1 (by simp [go_sem]) (by simp <;> omega)
    have f1_3_2 : w1.frozen? ⟨w.heap.size + 3, 2, none⟩ = false := fkeep b1 (by simp [go_sem]) (by simp <;> omega)
    have B1 : Below w.heap.size w w1 := (((((Below.refl _ _).alloc (Nat.le_refl _) _).alloc (by simp) _).alloc (by simp <;> omega) _).alloc (by simp <;> omega) _).trans (b1.mono (by simp <;> omega))
    clear b1
    go_wp2_with fail
    refine (hm _).mono ?_
    rintro e w2 ⟨rfl, b2⟩
    have hz2 := b2.size
    simp at hz2
    have c2_0_0 : w2.cell? ⟨w.heap.size, 0, none⟩ = some (.string al) := keep b2 (by simp [go_sem, *]) (by simp <;> omega)
    have c2_0_1 : w2.cell? ⟨w.heap.size, 1, none⟩ = some (.string ah) := keep b2 (by simp [go_sem, *]) (by simp <;> omega)
    have c2_0_2 : w2.cell? ⟨w.heap.size, 2, none⟩ = some (.bool false) := keep b2 (by simp [go_sem, *]) (by simp <;> omega)
    have c2_1_0 : w2.cell? ⟨w.heap.size + 1, 0, none⟩ = some (.string bl) := keep b2 (by simp [go_sem, *]) (by simp <;> omega)
    have c2_1_1 : w2.cell? ⟨w.heap.size + 1, 1, none⟩ = some (.string bh) := keep b2 (by simp [go_sem, *]) (by simp <;> omega)
    have c2_1_2 : w2.cell? ⟨w.heap.size + 1, 2, none⟩ = some (.bool false) := keep b2 (by simp [go_sem, *]) (by simp <;> omega)
    have c2_2_0 : w2.cell? ⟨w.heap.size + 2, 0, none⟩ = some (.string ⟨#[]⟩) := keep b2 (by simp [go_sem, *]) (by simp <;> omega)
    have f2_2_0 : w2.frozen? ⟨w.heap.size + 2, 0, none⟩ = false := fkeep b2 (by simp [go_sem, *]) (by simp <;> omega)
    have c2_2_1 : w2.cell? ⟨w.heap.size + 2, 1, none⟩ = some (.string ⟨#[]⟩) := keep b2 (by simp [go_sem, *]) (by simp <;> omega)
    have f2_2_1 : w2.frozen? ⟨w.heap.size + 2, 1, none⟩ = false := fkeep b2 (by simp [go_sem, *]) (by simp <;> omega)
    have c2_2_2 : w2.cell? ⟨w.heap.size + 2, 2, none⟩ = some (.bool false) := keep b2 (by simp [go_sem, *]) (by simp <;> omega)
    have f2_2_2 : w2.frozen? ⟨w.heap.size + 2, 2, none⟩ = false := fkeep b2 (by simp [go_sem, *]) (by simp <;> omega)
    have c2_3_0 : w2.cell? ⟨w.heap.size + 3, 0, none⟩ = some (.string al) := keep b2 (by simp [go_sem, *]) (by simp <;> omega)
    have f2_3_0 : w2.frozen? ⟨w.heap.size + 3, 0, none⟩ = false := fkeep b2 (by simp [go_sem, *]) (by simp <;> omega)
    have c2_3_1 : w2.cell? ⟨w.heap.size + 3, 1, none⟩ = some (.string ah) := keep b2 (by simp [go_sem, *]) (by simp <;> omega)
    have f2_3_1 : w2.frozen? ⟨w.heap.size + 3, 1, none⟩ = false := fkeep b2 (by simp [go_sem, *]) (by simp <;> omega)
    have c2_3_2 : w2.cell? ⟨w.heap.size + 3, 2, none⟩ = some (.bool false) := keep b2 (by simp [go_sem, *]) (by simp <;> omega)
    have f2_3_2 : w2.frozen? ⟨w.heap.size + 3, 2, none⟩ = false := fkeep b2 (by simp [go_sem, *]) (by simp <;> omega)
    have B2 : Below w.heap.size w w2 := (B1.setCell (by simp <;> omega) _).trans (b2.mono (by simp <;> omega))
    clear b2
    clear c1_0_0 c1_0_1 c1_0_2 c1_1_0 c1_1_1 c1_1_2 c1_2_0 c1_2_1 c1_2_2 c1_3_0 c1_3_1 c1_3_2 f1_2_0 f1_2_1 f1_2_2 f1_3_0 f1_3_1 f1_3_2
    go_wp2
    exact bodyPost_ret (v := .agg #[.string al, .string ah, .bool false]) (by simp [results, Try.results22, go_sem, *]) rfl ⟨rfl, (((B2.setCell (by simp <;> omega) _).setCell (by simp <;> omega) _).setCell (by simp <;> omega) _)⟩

set_option maxHeartbeats 4000000 in
theorem refmeet5 (al ah bl bh : ByteArray) (s1 : al.size ≤ 1000000) (s3 : bl.size ≤ 1000000) (w : World) (g1 : lt al bl = true) :
    Calls Try.prog 22 #[.agg #[.string al, .string ah, .bool false], .agg #[.string bl, .string bh, .bool true]] w fun e w' => e = .returned (.agg #[.string bl, .string ah, .bool false]) ∧ Below w.heap.size w w' := by
    have hl := less_any al bl s1 s3
    rw [g1] at hl
    clear g1
    clear s1 s3
    go_enter Try.func22, Try.ntmps22
    go_wp2_with fail
    refine (hl _).mono ?_
    rintro e w1 ⟨rfl, b1⟩
    have hz := b1.size
    simp at hz
    have c1_0_0 : w1.cell? ⟨w.heap.size, 0, none⟩ = some (.string al) := keep b1 (by simp [go_sem]) (by simp <;> omega)
    have c1_0_1 : w1.cell? ⟨w.heap.size, 1, none⟩ = some (.string ah) := keep b1 (by simp [go_sem]) (by simp <;> omega)
    have c1_0_2 : w1.cell? ⟨w.heap.size, 2, none⟩ = some (.bool false) := keep b1 (by simp [go_sem]) (by simp <;> omega)
    have c1_1_0 : w1.cell? ⟨w.heap.size + 1, 0, none⟩ = some (.string bl) := keep b1 (by simp [go_sem]) (by simp <;> omega)
    have c1_1_1 : w1.cell? ⟨w.heap.size + 1, 1, none⟩ = some (.string bh) := keep b1 (by simp [go_sem]) (by simp <;> omega)
    have c1_1_2 : w1.cell? ⟨w.heap.size + 1, 2, none⟩ = some (.bool true) := keep b1 (by simp [go_sem]) (by simp <;> omega)
    have c1_2_0 : w1.cell? ⟨w.heap.size + 2, 0, none⟩ = some (.string ⟨#[]⟩) := keep b1 (by simp [go_sem]) (by simp <;> omega)
    have f1_2_0 : w1.frozen? ⟨w.heap.size + 2, 0, none⟩ = false := fkeep b1 (by simp [go_sem]) (by simp <;> omega)
    have c1_2_1 : w1.cell? ⟨w.heap.size + 2, 1, none⟩ = some (.string ⟨#[]⟩) := keep b1 (by simp [go_sem]) (by simp <;> omega)
    have f1_2_1 : w1.frozen? ⟨w.heap.size + 2, 1, none⟩ = false := fkeep b1 (by simp [go_sem]) (by simp <;> omega)
    have c1_2_2 : w1.cell? ⟨w.heap.size + 2, 2, none⟩ = some (.bool false) := keep b1 (by simp [go_sem]) (by simp <;> omega)
    have f1_2_2 : w1.frozen? ⟨w.heap.size + 2, 2, none⟩ = false := fkeep b1 (by simp [go_sem]) (by simp <;> omega)
    have c1_3_0 : w1.cell? ⟨w.heap.size + 3, 0, none⟩ = some (.string al) := keep b1 (by simp [go_sem]) (by simp <;> omega)
    have f1_3_0 : w1.frozen? ⟨w.heap.size + 3, 0, none⟩ = false := fkeep b1 (by simp [go_sem]) (by simp <;> omega)
    have c1_3_1 : w1.cell? ⟨w.heap.size + 3, 1, none⟩ = some (.string ⟨#[]⟩) := keep b1 (by simp [go_sem]) (by simp <;> omega)
    have f1_3_1 : w1.frozen? ⟨w.heap.size + 3, 1, none⟩ = false := fkeep b1 (by simp [go_sem]) (by simp <;> omega)
    have c1_3_2 : w1.cell? ⟨w.heap.size + 3, 2, none⟩ = some (.bool false) := keep b1 (by simp [go_sem]) (by simp <;> omega)
    have f1_3_2 : w1.frozen? ⟨w.heap.size + 3, 2, none⟩ = false := fkeep b1 (by simp [go_sem]) (by simp <;> omega)
    have B1 : Below w.heap.size w w1 := (((((Below.refl _ _).alloc (Nat.le_refl _) _).alloc (by simp) _).alloc (by simp <;> omega) _).alloc (by simp <;> omega) _).trans (b1.mono (by simp <;> omega))
    clear b1
    go_wp2
    exact bodyPost_ret (v := .agg #[.string bl, .string ah, .bool false]) (by simp [results, Try.results22, go_sem, *]) rfl ⟨rfl, (((((B1.setCell (by simp <;> omega) _).setCell (by simp <;> omega) _).setCell (by simp <;> omega) _).setCell (by simp <;> omega) _).setCell (by simp <;> omega) _)⟩

set_option maxHeartbeats 4000000 in
theorem refmeet6 (al ah bl bh : ByteArray) (s1 : al.size ≤ 1000000) (s3 : bl.size ≤ 1000000) (w : World) (g1 : lt al bl = false) :
    Calls Try.prog 22 #[.agg #[.string al, .string ah, .bool false], .agg #[.string bl, .string bh, .bool true]] w fun e w' => e = .returned (.agg #[.string al, .string ah, .bool false]) ∧ Below w.heap.size w w' := by
    have hl := less_any al bl s1 s3
    rw [g1] at hl
    clear g1
    clear s1 s3
    go_enter Try.func22, Try.ntmps22
    go_wp2_with fail
    refine (hl _).mono ?_
    rintro e w1 ⟨rfl, b1⟩
    have hz := b1.size
    simp at hz
    have c1_0_0 : w1.cell? ⟨w.heap.size, 0, none⟩ = some (.string al) := keep b1 (by simp [go_sem]) (by simp <;> omega)
    have c1_0_1 : w1.cell? ⟨w.heap.size, 1, none⟩ = some (.string ah) := keep b1 (by simp [go_sem]) (by simp <;> omega)
    have c1_0_2 : w1.cell? ⟨w.heap.size, 2, none⟩ = some (.bool false) := keep b1 (by simp [go_sem]) (by simp <;> omega)
    have c1_1_0 : w1.cell? ⟨w.heap.size + 1, 0, none⟩ = some (.string bl) := keep b1 (by simp [go_sem]) (by simp <;> omega)
    have c1_1_1 : w1.cell? ⟨w.heap.size + 1, 1, none⟩ = some (.string bh) := keep b1 (by simp [go_sem]) (by simp <;> omega)
    have c1_1_2 : w1.cell? ⟨w.heap.size + 1, 2, none⟩ = some (.bool true) := keep b1 (by simp [go_sem]) (by simp <;> omega)
    have c1_2_0 : w1.cell? ⟨w.heap.size + 2, 0, none⟩ = some (.string ⟨#[]⟩) := keep b1 (by simp [go_sem]) (by simp <;> omega)
    have f1_2_0 : w1.frozen? ⟨w.heap.size + 2, 0, none⟩ = false := fkeep b1 (by simp [go_sem]) (by simp <;> omega)
    have c1_2_1 : w1.cell? ⟨w.heap.size + 2, 1, none⟩ = some (.string ⟨#[]⟩) := keep b1 (by simp [go_sem]) (by simp <;> omega)
    have f1_2_1 : w1.frozen? ⟨w.heap.size + 2, 1, none⟩ = false := fkeep b1 (by simp [go_sem]) (by simp <;> omega)
    have c1_2_2 : w1.cell? ⟨w.heap.size + 2, 2, none⟩ = some (.bool false) := keep b1 (by simp [go_sem]) (by simp <;> omega)
    have f1_2_2 : w1.frozen? ⟨w.heap.size + 2, 2, none⟩ = false := fkeep b1 (by simp [go_sem]) (by simp <;> omega)
    have c1_3_0 : w1.cell? ⟨w.heap.size + 3, 0, none⟩ = some (.string al) := keep b1 (by simp [go_sem]) (by simp <;> omega)
    have f1_3_0 : w1.frozen? ⟨w.heap.size + 3, 0, none⟩ = false := fkeep b1 (by simp [go_sem]) (by simp <;> omega)
    have c1_3_1 : w1.cell? ⟨w.heap.size + 3, 1, none⟩ = some (.string ⟨#[]⟩) := keep b1 (by simp [go_sem]) (by simp <;> omega)
    have f1_3_1 : w1.frozen? ⟨w.heap.size + 3, 1, none⟩ = false := fkeep b1 (by simp [go_sem]) (by simp <;> omega)
    have c1_3_2 : w1.cell? ⟨w.heap.size + 3, 2, none⟩ = some (.bool false) := keep b1 (by simp [go_sem]) (by simp <;> omega)
    have f1_3_2 : w1.frozen? ⟨w.heap.size + 3, 2, none⟩ = false := fkeep b1 (by simp [go_sem]) (by simp <;> omega)
    have B1 : Below w.heap.size w w1 := (((((Below.refl _ _).alloc (Nat.le_refl _) _).alloc (by simp) _).alloc (by simp <;> omega) _).alloc (by simp <;> omega) _).trans (b1.mono (by simp <;> omega))
    clear b1
    go_wp2
    exact bodyPost_ret (v := .agg #[.string al, .string ah, .bool false]) (by simp [results, Try.results22, go_sem, *]) rfl ⟨rfl, ((((B1.setCell (by simp <;> omega) _).setCell (by simp <;> omega) _).setCell (by simp <;> omega) _).setCell (by simp <;> omega) _)⟩

set_option maxHeartbeats 4000000 in
theorem refmeet7 (al ah bl bh : ByteArray) (s1 : al.size ≤ 1000000) (s3 : bl.size ≤ 1000000) (w : World) (g1 : lt al bl = true) :
    Calls Try.prog 22 #[.agg #[.string al, .string ah, .bool true], .agg #[.string bl, .string bh, .bool false]] w fun e w' => e = .returned (.agg #[.string bl, .string bh, .bool false]) ∧ Below w.heap.size w w' := by
    have hl := less_any al bl s1 s3
    rw [g1] at hl
    clear g1
    clear s1 s3
    go_enter Try.func22, Try.ntmps22
    go_wp2_with fail
    refine (hl _).mono ?_
    rintro e w1 ⟨rfl, b1⟩
    have hz := b1.size
    simp at hz
    have c1_0_0 : w1.cell? ⟨w.heap.size, 0, none⟩ = some (.string al) := keep b1 (by simp [go_sem]) (by simp <;> omega)
    have c1_0_1 : w1.cell? ⟨w.heap.size, 1, none⟩ = some (.string ah) := keep b1 (by simp [go_sem]) (by simp <;> omega)
    have c1_0_2 : w1.cell? ⟨w.heap.size, 2, none⟩ = some (.bool true) := keep b1 (by simp [go_sem]) (by simp <;> omega)
    have c1_1_0 : w1.cell? ⟨w.heap.size + 1, 0, none⟩ = some (.string bl) := keep b1 (by simp [go_sem]) (by simp <;> omega)
    have c1_1_1 : w1.cell? ⟨w.heap.size + 1, 1, none⟩ = some (.string bh) := keep b1 (by simp [go_sem]) (by simp <;> omega)
    have c1_1_2 : w1.cell? ⟨w.heap.size + 1, 2, none⟩ = some (.bool false) := keep b1 (by simp [go_sem]) (by simp <;> omega)
    have c1_2_0 : w1.cell? ⟨w.heap.size + 2, 0, none⟩ = some (.string ⟨#[]⟩) := keep b1 (by simp [go_sem]) (by simp <;> omega)
    have f1_2_0 : w1.frozen? ⟨w.heap.size + 2, 0, none⟩ = false := fkeep b1 (by simp [go_sem]) (by simp <;> omega)
    have c1_2_1 : w1.cell? ⟨w.heap.size + 2, 1, none⟩ = some (.string ⟨#[]⟩) := keep b1 (by simp [go_sem]) (by simp <;> omega)
    have f1_2_1 : w1.frozen? ⟨w.heap.size + 2, 1, none⟩ = false := fkeep b1 (by simp [go_sem]) (by simp <;> omega)
    have c1_2_2 : w1.cell? ⟨w.heap.size + 2, 2, none⟩ = some (.bool false) := keep b1 (by simp [go_sem]) (by simp <;> omega)
    have f1_2_2 : w1.frozen? ⟨w.heap.size + 2, 2, none⟩ = false := fkeep b1 (by simp [go_sem]) (by simp <;> omega)
    have c1_3_0 : w1.cell? ⟨w.heap.size + 3, 0, none⟩ = some (.string al) := keep b1 (by simp [go_sem]) (by simp <;> omega)
    have f1_3_0 : w1.frozen? ⟨w.heap.size + 3, 0, none⟩ = false := fkeep b1 (by simp [go_sem]) (by simp <;> omega)
    have c1_3_1 : w1.cell? ⟨w.heap.size + 3, 1, none⟩ = some (.string ⟨#[]⟩) := keep b1 (by simp [go_sem]) (by simp <;> omega)
    have f1_3_1 : w1.frozen? ⟨w.heap.size + 3, 1, none⟩ = false := fkeep b1 (by simp [go_sem]) (by simp <;> omega)
    have c1_3_2 : w1.cell? ⟨w.heap.size + 3, 2, none⟩ = some (.bool false) := keep b1 (by simp [go_sem]) (by simp <;> omega)
    have f1_3_2 : w1.frozen? ⟨w.heap.size + 3, 2, none⟩ = false := fkeep b1 (by simp [go_sem]) (by simp <;> omega)
    have B1 : Below w.heap.size w w1 := (((((Below.refl _ _).alloc (Nat.le_refl _) _).alloc (by simp) _).alloc (by simp <;> omega) _).alloc (by simp <;> omega) _).trans (b1.mono (by simp <;> omega))
    clear b1
    go_wp2
    exact bodyPost_ret (v := .agg #[.string bl, .string bh, .bool false]) (by simp [results, Try.results22, go_sem, *]) rfl ⟨rfl, (((((B1.setCell (by simp <;> omega) _).setCell (by simp <;> omega) _).setCell (by simp <;> omega) _).setCell (by simp <;> omega) _).setCell (by simp <;> omega) _)⟩

set_option maxHeartbeats 4000000 in
theorem refmeet8 (al ah bl bh : ByteArray) (s1 : al.size ≤ 1000000) (s3 : bl.size ≤ 1000000) (w : World) (g1 : lt al bl = false) :
    Calls Try.prog 22 #[.agg #[.string al, .string ah, .bool true], .agg #[.string bl, .string bh, .bool false]] w fun e w' => e = .returned (.agg #[.string al, .string bh, .bool false]) ∧ Below w.heap.size w w' := by
    have hl := less_any al bl s1 s3
    rw [g1] at hl
    clear g1
    clear s1 s3
    go_enter Try.func22, Try.ntmps22
    go_wp2_with fail
    refine (hl _).mono ?_
    rintro e w1 ⟨rfl, b1⟩
    have hz := b1.size
    simp at hz
    have c1_0_0 : w1.cell? ⟨w.heap.size, 0, none⟩ = some (.string al) := keep b1 (by simp [go_sem]) (by simp <;> omega)
    have c1_0_1 : w1.cell? ⟨w.heap.size, 1, none⟩ = some (.string ah) := keep b1 (by simp [go_sem]) (by simp <;> omega)
    have c1_0_2 : w1.cell? ⟨w.heap.size, 2, none⟩ = some (.bool true) := keep b1 (by simp [go_sem]) (by simp <;> omega)
    have c1_1_0 : w1.cell? ⟨w.heap.size + 1, 0, none⟩ = some (.string bl) := keep b1 (by simp [go_sem]) (by simp <;> omega)
    have c1_1_1 : w1.cell? ⟨w.heap.size + 1, 1, none⟩ = some (.string bh) := keep b1 (by simp [go_sem]) (by simp <;> omega)
    have c1_1_2 : w1.cell? ⟨w.heap.size + 1, 2, none⟩ = some (.bool false) := keep b1 (by simp [go_sem]) (by simp <;> omega)
    have c1_2_0 : w1.cell? ⟨w.heap.size + 2, 0, none⟩ = some (.string ⟨#[]⟩) := keep b1 (by simp [go_sem]) (by simp <;> omega)
    have f1_2_0 : w1.frozen? ⟨w.heap.size + 2, 0, none⟩ = false := fkeep b1 (by simp [go_sem]) (by simp <;> omega)
    have c1_2_1 : w1.cell? ⟨w.heap.size + 2, 1, none⟩ = some (.string ⟨#[]⟩) := keep b1 (by simp [go_sem]) (by simp <;> omega)
    have f1_2_1 : w1.frozen? ⟨w.heap.size + 2, 1, none⟩ = false := fkeep b1 (by simp [go_sem]) (by simp <;> omega)
    have c1_2_2 : w1.cell? ⟨w.heap.size + 2, 2, none⟩ = some (.bool false) := keep b1 (by simp [go_sem]) (by simp <;> omega)
    have f1_2_2 : w1.frozen? ⟨w.heap.size + 2, 2, none⟩ = false := fkeep b1 (by simp [go_sem]) (by simp <;> omega)
    have c1_3_0 : w1.cell? ⟨w.heap.size + 3, 0, none⟩ = some (.string al) := keep b1 (by simp [go_sem]) (by simp <;> omega)
    have f1_3_0 : w1.frozen? ⟨w.heap.size + 3, 0, none⟩ = false := fkeep b1 (by simp [go_sem]) (by simp <;> omega)
    have c1_3_1 : w1.cell? ⟨w.heap.size + 3, 1, none⟩ = some (.string ⟨#[]⟩) := keep b1 (by simp [go_sem]) (by simp <;> omega)
    have f1_3_1 : w1.frozen? ⟨w.heap.size + 3, 1, none⟩ = false := fkeep b1 (by simp [go_sem]) (by simp <;> omega)
    have c1_3_2 : w1.cell? ⟨w.heap.size + 3, 2, none⟩ = some (.bool false) := keep b1 (by simp [go_sem]) (by simp <;> omega)
    have f1_3_2 : w1.frozen? ⟨w.heap.size + 3, 2, none⟩ = false := fkeep b1 (by simp [go_sem]) (by simp <;> omega)
    have B1 : Below w.heap.size w w1 := (((((Below.refl _ _).alloc (Nat.le_refl _) _).alloc (by simp) _).alloc (by simp <;> omega) _).alloc (by simp <;> omega) _).trans (b1.mono (by simp <;> omega))
    clear b1
    go_wp2
    exact bodyPost_ret (v := .agg #[.string al, .string bh, .bool false]) (by simp [results, Try.results22, go_sem, *]) rfl ⟨rfl, ((((B1.setCell (by simp <;> omega) _).setCell (by simp <;> omega) _).setCell (by simp <;> omega) _).setCell (by simp <;> omega) _)⟩

set_option maxHeartbeats 4000000 in
theorem refmeet9 (al ah bl bh : ByteArray) (s1 : al.size ≤ 1000000) (s3 : bl.size ≤ 1000000) (w : World) (g1 : lt al bl = true) :
    Calls Try.prog 22 #[.agg #[.string al, .string ah, .bool true], .agg #[.string bl, .string bh, .bool true]] w fun e w' => e = .returned (.agg #[.string bl, .string no, .bool true]) ∧ Below w.heap.size w w' := by
    have hl := less_any al bl s1 s3
    rw [g1] at hl
    clear g1
    clear s1 s3
    go_enter Try.func22, Try.ntmps22
    go_wp2_with fail
    refine (hl _).mono ?_
    rintro e w1 ⟨rfl, b1⟩
    have hz := b1.size
    simp at hz
    have c1_0_0 : w1.cell? ⟨w.heap.size, 0, none⟩ = some (.string al) := keep b1 (by simp [go_sem]) (by simp <;> omega)
    have c1_0_1 : w1.cell? ⟨w.heap.size, 1, none⟩ = some (.string ah) := keep b1 (by simp [go_sem]) (by simp <;> omega)
    have c1_0_2 : w1.cell? ⟨w.heap.size, 2, none⟩ = some (.bool true) := keep b1 (by simp [go_sem]) (by simp <;> omega)
    have c1_1_0 : w1.cell? ⟨w.heap.size + 1, 0, none⟩ = some (.string bl) := keep b1 (by simp [go_sem]) (by simp <;> omega)
    have c1_1_1 : w1.cell? ⟨w.heap.size + 1, 1, none⟩ = some (.string bh) := keep b1 (by simp [go_sem]) (by simp <;> omega)
    have c1_1_2 : w1.cell? ⟨w.heap.size + 1, 2, none⟩ = some (.bool true) := keep b1 (by simp [go_sem]) (by simp <;> omega)
    have c1_2_0 : w1.cell? ⟨w.heap.size + 2, 0, none⟩ = some (.string ⟨#[]⟩) := keep b1 (by simp [go_sem]) (by simp <;> omega)
    have f1_2_0 : w1.frozen? ⟨w.heap.size + 2, 0, none⟩ = false := fkeep b1 (by simp [go_sem]) (by simp <;> omega)
    have c1_2_1 : w1.cell? ⟨w.heap.size + 2, 1, none⟩ = some (.string ⟨#[]⟩) := keep b1 (by simp [go_sem]) (by simp <;> omega)
    have f1_2_1 : w1.frozen? ⟨w.heap.size + 2, 1, none⟩ = false := fkeep b1 (by simp [go_sem]) (by simp <;> omega)
    have c1_2_2 : w1.cell? ⟨w.heap.size + 2, 2, none⟩ = some (.bool false) := keep b1 (by simp [go_sem]) (by simp <;> omega)
    have f1_2_2 : w1.frozen? ⟨w.heap.size + 2, 2, none⟩ = false := fkeep b1 (by simp [go_sem]) (by simp <;> omega)
    have c1_3_0 : w1.cell? ⟨w.heap.size + 3, 0, none⟩ = some (.string al) := keep b1 (by simp [go_sem]) (by simp <;> omega)
    have f1_3_0 : w1.frozen? ⟨w.heap.size + 3, 0, none⟩ = false := fkeep b1 (by simp [go_sem]) (by simp <;> omega)
    have c1_3_1 : w1.cell? ⟨w.heap.size + 3, 1, none⟩ = some (.string ⟨#[]⟩) := keep b1 (by simp [go_sem]) (by simp <;> omega)
    have f1_3_1 : w1.frozen? ⟨w.heap.size + 3, 1, none⟩ = false := fkeep b1 (by simp [go_sem]) (by simp <;> omega)
    have c1_3_2 : w1.cell? ⟨w.heap.size + 3, 2, none⟩ = some (.bool true) := keep b1 (by simp [go_sem]) (by simp <;> omega)
    have f1_3_2 : w1.frozen? ⟨w.heap.size + 3, 2, none⟩ = false := fkeep b1 (by simp [go_sem]) (by simp <;> omega)
    have B1 : Below w.heap.size w w1 := (((((Below.refl _ _).alloc (Nat.le_refl _) _).alloc (by simp) _).alloc (by simp <;> omega) _).alloc (by simp <;> omega) _).trans (b1.mono (by simp <;> omega))
    clear b1
    go_wp2
    exact bodyPost_ret (v := .agg #[.string bl, .string ⟨#[]⟩, .bool true]) (by simp [results, Try.results22, go_sem, *]) rfl ⟨rfl, ((((B1.setCell (by simp <;> omega) _).setCell (by simp <;> omega) _).setCell (by simp <;> omega) _).setCell (by simp <;> omega) _)⟩

set_option maxHeartbeats 4000000 in
theorem refmeet10 (al ah bl bh : ByteArray) (s1 : al.size ≤ 1000000) (s3 : bl.size ≤ 1000000) (w : World) (g1 : lt al bl = false) :
    Calls Try.prog 22 #[.agg #[.string al, .string ah, .bool true], .agg #[.string bl, .string bh, .bool true]] w fun e w' => e = .returned (.agg #[.string al, .string no, .bool true]) ∧ Below w.heap.size w w' := by
    have hl := less_any al bl s1 s3
    rw [g1] at hl
    clear g1
    clear s1 s3
    go_enter Try.func22, Try.ntmps22
    go_wp2_with fail
    refine (hl _).mono ?_
    rintro e w1 ⟨rfl, b1⟩
    have hz := b1.size
    simp at hz
    have c1_0_0 : w1.cell? ⟨w.heap.size, 0, none⟩ = some (.string al) := keep b1 (by simp [go_sem]) (by simp <;> omega)
    have c1_0_1 : w1.cell? ⟨w.heap.size, 1, none⟩ = some (.string ah) := keep b1 (by simp [go_sem]) (by simp <;> omega)
    have c1_0_2 : w1.cell? ⟨w.heap.size, 2, none⟩ = some (.bool true) := keep b1 (by simp [go_sem]) (by simp <;> omega)
    have c1_1_0 : w1.cell? ⟨w.heap.size + 1, 0, none⟩ = some (.string bl) := keep b1 (by simp [go_sem]) (by simp <;> omega)
    have c1_1_1 : w1.cell? ⟨w.heap.size + 1, 1, none⟩ = some (.string bh) := keep b1 (by simp [go_sem]) (by simp <;> omega)
    have c1_1_2 : w1.cell? ⟨w.heap.size + 1, 2, none⟩ = some (.bool true) := keep b1 (by simp [go_sem]) (by simp <;> omega)
    have c1_2_0 : w1.cell? ⟨w.heap.size + 2, 0, none⟩ = some (.string ⟨#[]⟩) := keep b1 (by simp [go_sem]) (by simp <;> omega)
    have f1_2_0 : w1.frozen? ⟨w.heap.size + 2, 0, none⟩ = false := fkeep b1 (by simp [go_sem]) (by simp <;> omega)
    have c1_2_1 : w1.cell? ⟨w.heap.size + 2, 1, none⟩ = some (.string ⟨#[]⟩) := keep b1 (by simp [go_sem]) (by simp <;> omega)
    have f1_2_1 : w1.frozen? ⟨w.heap.size + 2, 1, none⟩ = false := fkeep b1 (by simp [go_sem]) (by simp <;> omega)
    have c1_2_2 : w1.cell? ⟨w.heap.size + 2, 2, none⟩ = some (.bool false) := keep b1 (by simp [go_sem]) (by simp <;> omega)
    have f1_2_2 : w1.frozen? ⟨w.heap.size + 2, 2, none⟩ = false := fkeep b1 (by simp [go_sem]) (by simp <;> omega)
    have c1_3_0 : w1.cell? ⟨w.heap.size + 3, 0, none⟩ = some (.string al) := keep b1 (by simp [go_sem]) (by simp <;> omega)
    have f1_3_0 : w1.frozen? ⟨w.heap.size + 3, 0, none⟩ = false := fkeep b1 (by simp [go_sem]) (by simp <;> omega)
    have c1_3_1 : w1.cell? ⟨w.heap.size + 3, 1, none⟩ = some (.string ⟨#[]⟩) := keep b1 (by simp [go_sem]) (by simp <;> omega)
    have f1_3_1 : w1.frozen? ⟨w.heap.size + 3, 1, none⟩ = false := fkeep b1 (by simp [go_sem]) (by simp <;> omega)
    have c1_3_2 : w1.cell? ⟨w.heap.size + 3, 2, none⟩ = some (.bool true) := keep b1 (by simp [go_sem]) (by simp <;> omega)
    have f1_3_2 : w1.frozen? ⟨w.heap.size + 3, 2, none⟩ = false := fkeep b1 (by simp [go_sem]) (by simp <;> omega)
    have B1 : Below w.heap.size w w1 := (((((Below.refl _ _).alloc (Nat.le_refl _) _).alloc (by simp) _).alloc (by simp <;> omega) _).alloc (by simp <;> omega) _).trans (b1.mono (by simp <;> omega))
    clear b1
    go_wp2
    exact bodyPost_ret (v := .agg #[.string al, .string ⟨#[]⟩, .bool true]) (by simp [results, Try.results22, go_sem, *]) rfl ⟨rfl, (((B1.setCell (by simp <;> omega) _).setCell (by simp <;> omega) _).setCell (by simp <;> omega) _)⟩

theorem refmeet_any (a b : Sp) (s1 : a.lo.size ≤ 1000000) (s2 : a.hi.size ≤ 1000000) (s3 : b.lo.size ≤ 1000000) (s4 : b.hi.size ≤ 1000000) (w : World) : Calls Try.prog 22 #[a.v, b.v] w fun e w' => e = .returned (a.meet b).v ∧ Below w.heap.size w w' := by
  obtain ⟨al, ah, aa⟩ := a
  obtain ⟨bl, bh, ba⟩ := b
  simp only at s1 s2 s3 s4
  simp only [Sp.v, Sp.meet, mx, mn]
  cases aa <;> cases ba
  · cases g1 : lt al bl <;> cases g2 : lt bh ah
    · exact refmeet4 al ah bl bh s1 s2 s3 s4 w g1 g2
    · exact refmeet3 al ah bl bh s1 s2 s3 s4 w g1 g2
    · exact refmeet2 al ah bl bh s1 s2 s3 s4 w g1 g2
    · exact refmeet1 al ah bl bh s1 s2 s3 s4 w g1 g2
  · cases g1 : lt al bl
    · exact refmeet6 al ah bl bh s1 s3 w g1
    · exact refmeet5 al ah bl bh s1 s3 w g1
  · cases g1 : lt al bl
    · exact refmeet8 al ah bl bh s1 s3 w g1
    · exact refmeet7 al ah bl bh s1 s3 w g1
  · cases g1 : lt al bl
    · exact refmeet10 al ah bl bh s1 s3 w g1
    · exact refmeet9 al ah bl bh s1 s3 w g1
end Go.Proofs.Ytkafbjnhjmlabaa
