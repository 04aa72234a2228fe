/- DescRefuses' law. Condition: the library's table stands. -/
import Derived.Test.YteiikkkcjpfapaaDoorLRa
namespace Go.Proofs.YteiikkkcjpfapaaDoor
open Go.RowKit Go.Op
set_option maxRecDepth 100000

theorem enter_37 (xs : Array Value) (w : World) : (callFunc 37 xs).run Tryd.prog w = .ok (.enter 37 xs) w := by kernel_rfl
set_option maxHeartbeats 1000000 in
theorem refuses_law (w : World) (hT : TabAt w) (h : Int) : Calls Tryd.prog 7 #[.int .i64 h] w fun e w' => e = .returned (.bool true) ∧ Below w.heap.size w w' := by
  have haw := awake_any w hT
  have a4 := as4_yes
  have hm := hmf1
  go_enter Tryd.func7, Tryd.ntmps7
  go_wp2_with fail
  refine haw.mono ?_
  rintro e w1 ⟨rfl, hb1⟩
  have hT1 := hT.below hb1
  have hl := lay_any w1 hT1 9 1 (by decide) (by decide) (by decide) (by rw [awt]) (by have := awc.1; unfold aw0 at this; omega) rflay
  clear haw
  go_wp2_with fail
  refine hl.mono ?_
  rintro e w2 ⟨⟨b, c, r, G, v, rfl, hE, hN⟩, hb2⟩
  rw [rf0a] at hN
  obtain ⟨a, cap, rfl, hN⟩ := hN
  rcases hN with hN | ⟨g, rfl, lg, hg⟩
  · cases hN
  replace hE : HasE w1 b c r G w2 rf0 := hE
  have hg0 := hg 0 4 rfl
  rw [awt]
  simp only [List.length_singleton]
  have hb3 := (Below.refl w2.heap.size w2).alloc (Nat.le_refl _) (yobj b 3 (some ⟨g, 0, none⟩) 1 cap)
  have hg3 : (w2.alloc (yobj b 3 (some ⟨g, 0, none⟩) 1 cap)).cell? ⟨g, 0, none⟩ = some (.int .i64 4) := by rw [hb3.cell (p := ⟨g, 0, none⟩) lg.lt]; exact hg0
  have y3 := ynew w2 b 3 (some ⟨g, 0, none⟩) 1 cap
  have hdo := do_any (w2.alloc (yobj b 3 (some ⟨g, 0, none⟩) 1 cap)) b 37 #[.pointer (some ⟨w2.heap.size, 0, none⟩)] _ enter_37 (refuses1_any (hE.later hb3) hT1 y3 (hE.fresh _) (lg.later hb3.size (Grow.refl _ _)) hg3)
  obtain ⟨g1, g2, g3, g4⟩ := hE.ge
  have HB0 : Hid (Below w.heap.size w (w2.alloc (yobj b 3 (some ⟨g, 0, none⟩) 1 cap))) := (hb1.trans ((hb2.mono hb1.size))).trans (hb3.mono (Nat.le_trans hb1.size hb2.size))
  have HB : Hid (∀ w3, ButN [b, c, r] (w2.alloc (yobj b 3 (some ⟨g, 0, none⟩) 1 cap)).heap.size (w2.alloc (yobj b 3 (some ⟨g, 0, none⟩) 1 cap)) w3 → Below w.heap.size w w3) := fun w3 h =>
    HB0.out.trans (h.below (fun z hz => by
      have := hb1.size
      simp at hz; rcases hz with rfl | rfl | rfl <;> omega) HB0.out.size)
  have c0 := y3.c0
  have c1 := y3.c1
  have c2 := y3.c2
  obtain ⟨wy, hwy⟩ : ∃ W, W = w2.alloc (yobj b 3 (some ⟨g, 0, none⟩) 1 cap) := ⟨_, rfl⟩
  rw [← hwy] at c0 c1 c2 hdo HB HB0 hg3
  unfold yobj at hwy
  have HW := Lib.hid hwy.symm
  clear hl hE hb1 hb2 hb3 g1 g2 g3 g4 hg hg0 lg y3 hwy
  go_wp2_with (first | rw [HW.out] | fail)
  go_loopw [5] (fun iv wr => ∃ i : Nat, iv = .int .i64 (i : Int) ∧ i ≤ 1 ∧ wr = wy) (fun iv _ => 1 - (intOf iv).toNat)
  case atStart => exact ⟨0, rfl, by omega, rfl⟩
  case round =>
    obtain ⟨i, rfl, hi, rfl⟩ := hrel
    have hi' : i = 0 ∨ i = 1 := by omega
    rcases hi' with rfl | rfl
    · have HE := Lib.hid HB0.out
      by_cases e4 : h = 4
      · subst e4
        go_wp2
        go_ret
        exact ⟨rfl, HE.out⟩
      · by_cases e3 : h = 3
        · subst e3
          go_wp2
          go_ret
          exact ⟨rfl, HE.out⟩
        · have d4 : (h == 4) = false := by simpa using e4
          have d3 : (h == 3) = false := by simpa using e3
          go_wp2_with fail
          go_roundw
          case rel => exact ⟨1, by simp, by omega, by simp⟩
          case measure => simp [intOf]
    · go_wp2_with fail
      refine hdo.mono ?_
      rintro e w3 ⟨u, rfl, rfl, hb⟩
      have HE := Lib.hid (HB.out w3 hb)
      clear hdo hb HB
      go_wp2
      go_ret
      exact ⟨rfl, HE.out⟩
theorem refusesLaw (h : Int) (_hw : (Lit.int .i64 h).wf = true) (w : World) (hT : TabAt w) : Calls Tryd.prog 7 #[.int .i64 h] w fun e w' => e = .returned (.bool true) ∧ Below w.heap.size w w' := refuses_law w hT h
end Go.Proofs.YteiikkkcjpfapaaDoor
