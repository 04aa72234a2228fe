/- The document's examples hold; Short of two spans; KeyAfter answers true. No condition. -/
import Derived.Test.YtkafbjnhjmlabaaWalkE
namespace Go.Proofs.Ytkafbjnhjmlabaa
open Go.RowKit Go.Op
set_option maxRecDepth 100000

theorem after_a (w : World) : Calls Try.prog 24 #[.string ⟨#[97]⟩] w fun e w' => e = .returned (.string ⟨#[97, 0]⟩) ∧ w = w' := after_any ⟨#[97]⟩ (by decide) w
theorem meet_abc : (Sp.mk ⟨#[97]⟩ ⟨#[99]⟩ false).meet ⟨⟨#[98]⟩, ⟨#[]⟩, true⟩ = ⟨⟨#[98]⟩, ⟨#[99]⟩, false⟩ := by
  have h : lt ⟨#[97]⟩ ⟨#[98]⟩ = true := by rw [lt_data]; decide
  simp [Sp.meet, mx, h]
theorem meet_ex (w : World) : Calls Try.prog 20 #[.agg #[.string ⟨#[97]⟩, .string ⟨#[99]⟩, .bool false], .agg #[.string ⟨#[98]⟩, .string ⟨#[]⟩, .bool true]] w fun e w' => e = .returned (.agg #[.string ⟨#[98]⟩, .string ⟨#[99]⟩, .bool false]) ∧ Below w.heap.size w w' := by
  have := meet_any (Sp.mk ⟨#[97]⟩ ⟨#[99]⟩ false) ⟨⟨#[98]⟩, ⟨#[]⟩, true⟩ w
  rw [meet_abc] at this
  exact this
theorem awake_any (w : World) : Calls Try.prog 9 #[] w fun e w' => e = .returned (.bool true) ∧ Below w.heap.size w w' := by
  go_enter Try.func9, Try.ntmps9
  go_wp2_with fail
  refine (after_a _).mono ?_
  rintro e w1 ⟨rfl, rfl⟩
  go_wp2_with fail
  refine (meet_ex _).mono ?_
  rintro e w2 ⟨rfl, b2⟩
  go_wp2
  go_ret
  exact ⟨rfl, b2⟩

theorem short_two (l0 h0 l1 h1 : ByteArray) (al bl : Bool) (g c : Nat) (w : World) (c0 : w.cell? ⟨g, 0, none⟩ = some (.string l0)) (c1 : w.cell? ⟨g, 1, none⟩ = some (.string h0)) (c3 : w.cell? ⟨g, 3, none⟩ = some (.string l1)) (c4 : w.cell? ⟨g, 4, none⟩ = some (.string h1)) :
    Calls Try.prog 12 #[.slice (some ⟨g, 0, none⟩) 2 c] w fun e w' => e = .returned (.int .i64 (if (⟨l0, h0, al⟩ : Sp).short && (⟨l1, h1, bl⟩ : Sp).short then 1 else 0)) ∧ Below w.heap.size w w' := by
  by_cases g0 : l0.size ≤ 1100
  · have d0 : decide ((1100 : Int) < (l0.size : Int)) = false := decide_eq_false (by omega)
    by_cases g1 : h0.size ≤ 1100
    · have d1 : decide ((1100 : Int) < (h0.size : Int)) = false := decide_eq_false (by omega)
      by_cases g2 : l1.size ≤ 1100
      · have d2 : decide ((1100 : Int) < (l1.size : Int)) = false := decide_eq_false (by omega)
        by_cases g3 : h1.size ≤ 1100
        · have d3 : decide ((1100 : Int) < (h1.size : Int)) = false := decide_eq_false (by omega)
          rw [show ((⟨l0, h0, al⟩ : Sp).short && (⟨l1, h1, bl⟩ : Sp).short) = true by simp [Sp.short, g0, g1, g2, g3]]
          clear g0 g1 g2 g3
          go_enter Try.func12, Try.ntmps12
          go_wp2
          go_rounds 3
          go_ret
          exact ⟨rfl, Below.refl _ _⟩
        · have d3 : decide ((1100 : Int) < (h1.size : Int)) = true := decide_eq_true (by omega)
          rw [show ((⟨l0, h0, al⟩ : Sp).short && (⟨l1, h1, bl⟩ : Sp).short) = false by simp [Sp.short, g0, g1, g2, g3]]
          clear g0 g1 g2 g3
          go_enter Try.func12, Try.ntmps12
          go_wp2
          go_rounds 2
          go_ret
          exact ⟨rfl, Below.refl _ _⟩
      · have d2 : decide ((1100 : Int) < (l1.size : Int)) = true := decide_eq_true (by omega)
        rw [show ((⟨l0, h0, al⟩ : Sp).short && (⟨l1, h1, bl⟩ : Sp).short) = false by simp [Sp.short, g0, g1, g2]]
        clear g0 g1 g2
        go_enter Try.func12, Try.ntmps12
        go_wp2
        go_rounds 2
        go_ret
        exact ⟨rfl, Below.refl _ _⟩
    · have d1 : decide ((1100 : Int) < (h0.size : Int)) = true := decide_eq_true (by omega)
      rw [show ((⟨l0, h0, al⟩ : Sp).short && (⟨l1, h1, bl⟩ : Sp).short) = false by simp [Sp.short, g0, g1]]
      clear g0 g1
      go_enter Try.func12, Try.ntmps12
      go_wp2
      go_rounds 1
      go_ret
      exact ⟨rfl, Below.refl _ _⟩
  · have d0 : decide ((1100 : Int) < (l0.size : Int)) = true := decide_eq_true (by omega)
    rw [show ((⟨l0, h0, al⟩ : Sp).short && (⟨l1, h1, bl⟩ : Sp).short) = false by simp [Sp.short, g0]]
    clear g0
    go_enter Try.func12, Try.ntmps12
    go_wp2
    go_rounds 1
    go_ret
    exact ⟨rfl, Below.refl _ _⟩

theorem lt_next (k t : ByteArray) : bytesLess t.toList (k ++ ⟨#[0]⟩ : ByteArray).toList = !bytesLess k.toList t.toList := by
  rw [show (k ++ ⟨#[0]⟩ : ByteArray).toList = k.toList ++ [0] by rw [ByteArray.toList_eq, ByteArray.toList_eq]; simp]
  exact less_next _ _

set_option maxHeartbeats 2000000 in
theorem afterLaw_any (k t : ByteArray) (w : World) : Calls Try.prog 7 #[.string k, .string t] w fun e w' => e = .returned (.bool true) ∧ Below w.heap.size w w' := by
  by_cases h0 : k.size ≤ 1100
  · have d0 : decide ((1100 : Int) < (k.size : Int)) = false := decide_eq_false (by omega)
    by_cases h1 : t.size ≤ 1100
    · have d1 : decide ((1100 : Int) < (t.size : Int)) = false := decide_eq_false (by omega)
      have ha := after_any k (by omega)
      obtain ⟨M, hM⟩ : ∃ M, M = (k ++ ⟨#[0]⟩ : ByteArray) := ⟨_, rfl⟩
      have f1 := lt_next k t
      have f2 := lt_next k k
      rw [less_irr] at f2
      rw [← hM] at f1 f2 ha
      have he : (Sp.mk k M false).empty = false := by simp only [Sp.empty, lt, f2]; rfl
      have hE := empty_any (Sp.mk k M false)
      rw [he] at hE
      simp only [Sp.v] at hE
      clear hM h0 h1 he
      rcases tri t k with ⟨g1, g2, g3⟩ | ⟨g1, g2, g3⟩ | ⟨g1, g2, g3⟩
      all_goals
        rw [g2] at f1
        go_enter Try.func7, Try.ntmps7
        go_wp2_with fail
        refine (awake_any _).mono ?_
        rintro e w1 ⟨rfl, b1⟩
        go_wp2_with fail
        refine (ha _).mono ?_
        rintro e w2 ⟨rfl, rfl⟩
        go_wp2_with fail
        refine (hE _).mono ?_
        rintro e w3 ⟨rfl, b3⟩
        go_wp2
        go_ret
        exact ⟨rfl, b1.trans (b3.mono b1.size)⟩
    · have d1 : decide ((1100 : Int) < (t.size : Int)) = true := decide_eq_true (by omega)
      clear h0 h1
      go_enter Try.func7, Try.ntmps7
      go_wp2_with fail
      refine (awake_any _).mono ?_
      rintro e w1 ⟨rfl, b1⟩
      go_wp2_with fail
      refine (awake_any _).mono ?_
      rintro e w2 ⟨rfl, b2⟩
      go_wp2
      go_ret
      exact ⟨rfl, b1.trans (b2.mono b1.size)⟩
  · have d0 : decide ((1100 : Int) < (k.size : Int)) = true := decide_eq_true (by omega)
    clear h0
    go_enter Try.func7, Try.ntmps7
    go_wp2_with fail
    refine (awake_any _).mono ?_
    rintro e w1 ⟨rfl, b1⟩
    go_wp2_with fail
    refine (awake_any _).mono ?_
    rintro e w2 ⟨rfl, b2⟩
    go_wp2
    go_ret
    exact ⟨rfl, b1.trans (b2.mono b1.size)⟩
end Go.Proofs.Ytkafbjnhjmlabaa
