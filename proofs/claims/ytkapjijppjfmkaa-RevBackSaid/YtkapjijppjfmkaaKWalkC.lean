/- What Meet answers of two spans: of the program, of the reference. Condition: the reference's texts have at most 1000000 bytes. -/
import Derived.Test.YtkapjijppjfmkaaKWalkB
namespace Go.Proofs.Ytkapjijppjfmkaa
open Go.RowKit Go.Op
set_option maxRecDepth 100000

theorem run_max (w : World) (ts : Array TypeId) (t : TypeId) (x y : ByteArray) : (Builtin.max_ ts t #[.string x, .string y]).run Try.prog w = .ok (.string (mx x y)) w := by
  rw [Lib.run_max_strs]
  unfold Lib.maxS mx lt
  rw [Proofs.bytesLess_eq, Lib.toList_data, Lib.toList_data]
  simp
theorem run_min (w : World) (ts : Array TypeId) (t : TypeId) (x y : ByteArray) : (Builtin.min_ ts t #[.string x, .string y]).run Try.prog w = .ok (.string (mn x y)) w := by
  rw [Lib.run_min_strs]
  congr 2
  unfold Lib.minS mn
  have h := Proofs.bytesLess_eq x.data.toList y.data.toList
  rcases tri x y with ⟨h1, h2, h3⟩ | ⟨h1, h2, h3⟩ | ⟨h1, h2, h3⟩
  all_goals
    rw [show lt y x = bytesLess y.toList x.toList from rfl, h2]
    rw [Lib.toList_data, Lib.toList_data] at h1
    rw [h1] at h
  · have := of_decide_eq_true h.symm
    rw [if_pos (.inl this)]
    rfl
  · rw [Lib.toList_data, Lib.toList_data, beq_iff_eq] at h3
    rw [if_pos (.inr h3)]
    rfl
  · have := of_decide_eq_false h.symm
    rw [Lib.toList_data, Lib.toList_data, beq_eq_false_iff_ne] at h3
    rw [if_neg (by rintro (h | h); exact this h; exact h3 h)]
    rfl

set_option maxHeartbeats 2000000 in
theorem meet_any (a b : Sp) (w : World) : Calls Try.prog 29 #[a.v, b.v] w fun e w' => e = .returned (a.meet b).v ∧ Below w.heap.size w w' := by
  obtain ⟨al, ah, aa⟩ := a
  obtain ⟨bl, bh, ba⟩ := b
  simp only [Sp.v, Sp.meet]
  have hmx := fun W ts t => run_max W ts t al bl
  have hmn := fun W ts t => run_min W ts t ah bh
  have B := ((((Below.refl w.heap.size w).alloc (Nat.le_refl _) (.cells #[.string al, .string ah, .bool aa] 28)).alloc (by simp) (.cells #[.string bl, .string bh, .bool ba] 28)))
  have E := Lib.hid B
  clear B
  cases aa <;> cases ba
  · go_enter Try.func29, Try.ntmps29
    go_wp2
    refine bodyPost_ret (v := .agg #[.string (mx al bl), .string (mn ah bh), .bool false]) (by simp [results, Try.results29, go_sem]) rfl ⟨by simp, ?_⟩
    exact (E.out.alloc (by simp <;> omega) _).alloc (by simp <;> omega) _
  · go_enter Try.func29, Try.ntmps29
    go_wp2
    refine bodyPost_ret (v := .agg #[.string (mx al bl), .string (ah), .bool false]) (by simp [results, Try.results29, go_sem]) rfl ⟨by simp, ?_⟩
    exact (E.out.alloc (by simp <;> omega) _).alloc (by simp <;> omega) _
  · go_enter Try.func29, Try.ntmps29
    go_wp2
    refine bodyPost_ret (v := .agg #[.string (mx al bl), .string (bh), .bool false]) (by simp [results, Try.results29, go_sem]) rfl ⟨by simp, ?_⟩
    exact (E.out.alloc (by simp <;> omega) _).alloc (by simp <;> omega) _
  · go_enter Try.func29, Try.ntmps29
    go_wp2
    refine bodyPost_ret (v := .agg #[.string (mx al bl), .string (no), .bool true]) (by simp [results, Try.results29, go_sem, no]) rfl ⟨by simp [no], ?_⟩
    exact (E.out.alloc (by simp <;> omega) _).alloc (by simp <;> omega) _

end Go.Proofs.Ytkapjijppjfmkaa
