/- DescFull's law. Condition: the library's table stands. -/
import Derived.Test.YteiikkkcjpfapaaDoorLFa
namespace Go.Proofs.YteiikkkcjpfapaaDoor
open Go.RowKit Go.Op
set_option maxRecDepth 100000

theorem enter_30 (xs : Array Value) (w : World) : (callFunc 30 xs).run Tryd.prog w = .ok (.enter 30 xs) w := by kernel_rfl
set_option maxHeartbeats 1000000 in
theorem full_law (w : World) (hT : TabAt w) (n8 : Nat) (h8 : n8 ≤ 255) : Calls Tryd.prog 6 #[.int .u8 (n8 : Int)] w fun e w' => e = .returned (.bool true) ∧ Below w.heap.size w w' := by
  have haw := awake_any w hT
  have a4 := as4_yes
  have hm := hmf1
  have hn : n8 % 6 < 6 := Nat.mod_lt _ (by decide)
  have en : ((n8 % 6 : Nat) : Int) = (n8 : Int) % 6 := by omega
  have h82 : (n8 : Int) ≤ 255 := by omega
  go_enter Tryd.func6, Tryd.ntmps6
  go_wp2_with fail
  refine haw.mono ?_
  rintro e w1 ⟨rfl, hb1⟩
  have hbn := (Below.refl w1.heap.size w1).alloc (Nat.le_refl _) (.cells #[.int .i64 ((n8 % 6 : Nat) : Int)] 3)
  have hb1n := hb1.trans (hbn.mono hb1.size)
  have hT1 := hT.below hb1n
  have cn : (w1.alloc (.cells #[.int .i64 ((n8 % 6 : Nat) : Int)] 3)).cell? ⟨w1.heap.size, 0, none⟩ = some (.int .i64 ((n8 % 6 : Nat) : Int)) := by simp [go_sem]
  have hln : w1.heap.size < (w1.alloc (.cells #[.int .i64 ((n8 % 6 : Nat) : Int)] 3)).heap.size := by simp
  have hl := lay_any (w1.alloc (.cells #[.int .i64 ((n8 % 6 : Nat) : Int)] 3)) hT1 (3 + n8 % 6) 0 (by omega) (by omega) (by decide) (by rw [(fl_0 _ hn).1]) (by have := (fl_0 _ hn).2.2; unfold fl0 at this; omega) (fun i hi => absurd hi (Nat.not_lt_zero _))
  have e3 : ((3 + n8 % 6 : Nat) : Int) = 3 + (n8 : Int) % 6 := by omega
  rw [e3] at hl
  generalize hN : n8 % 6 = n at *
  obtain ⟨wn, hwn⟩ : ∃ W, W = w1.alloc (.cells #[.int .i64 (n : Int)] 3) := ⟨_, rfl⟩
  rw [← hwn] at hl cn hln hb1n hT1
  rw [en] at hwn cn
  have HW := Lib.hid hwn.symm
  have HN := Lib.hid (⟨hn, en, e3⟩ : n < 6 ∧ _ ∧ _)
  have HB := Lib.hid (⟨hb1, hb1n, hln⟩ : _ ∧ _ ∧ _)
  clear haw hbn hwn en e3 hn hN hb1 hb1n hln
  go_wp2_with (first | rw [HW.out] | fail)
  refine hl.mono ?_
  rintro e w2 ⟨⟨b, c, r, G, v, rfl, hE, hNm⟩, hb2⟩
  obtain ⟨a, cap, rfl, -⟩ := hNm
  replace hE : HasE wn b c r G w2 (fl0 n) := hE
  rw [(fl_0 n HN.out.1).1]
  simp only [layS, List.length_nil]
  obtain ⟨g1, g2, g3, g4⟩ := hE.ge
  have hb3 := (Below.refl w2.heap.size w2).alloc (Nat.le_refl _) (yobj b 3 a 0 cap)
  have hE3 := hE.later hb3
  have hlv := live_E hE3
  rw [(fl_0 n HN.out.1).2.1] at hlv
  have hb4 := (Below.refl (w2.alloc (yobj b 3 a 0 cap)).heap.size (w2.alloc (yobj b 3 a 0 cap))).alloc (Nat.le_refl _) (.cells #[.int .i64 3] 3)
  have hz3 : (w2.alloc (yobj b 3 a 0 cap)).heap.size = w2.heap.size + 1 := by simp
  obtain ⟨wf, hwf⟩ : ∃ W, W = (w2.alloc (yobj b 3 a 0 cap)).alloc (.cells #[.int .i64 3] 3) := ⟨_, rfl⟩
  have y4 : YVar wf w2.heap.size b 3 (.slice a 0 cap) := by
    rw [hwf]; exact (ynew w2 b 3 a 0 cap).same (hb4.block _ (by omega))
  have cl : wf.cell? ⟨w2.heap.size + 1, 0, none⟩ = some (.int .i64 3) := by rw [hwf, ← hz3]; simp [go_sem]
  have ll : LocM wn b c r G wf (w2.heap.size + 1) := by
    have := hE3.fresh (.cells #[.int .i64 3] 3)
    rw [hz3] at this
    rw [hwf]; exact this
  have ly : LocM wn b c r G wf w2.heap.size := by
    rw [hwf]; exact (hE.fresh _).later hb4.size (Grow.refl _ _)
  have hEf : HasE wn b c r G wf (fl0 n) := by rw [hwf]; exact hE3.later hb4
  have hzn := HB.out.2.2
  have hbf : Below w2.heap.size w2 wf := by rw [hwf]; exact hb3.trans (hb4.mono hb3.size)
  have cnf : wf.cell? ⟨w1.heap.size, 0, none⟩ = some (.int .i64 (n : Int)) := by
    rw [hbf.cell (p := ⟨w1.heap.size, 0, none⟩) (by have := hb2.size; simp only; omega), hb2.cell (p := ⟨w1.heap.size, 0, none⟩) hzn, HN.out.2.1]; exact cn
  have hdo := do_any wf b 30 #[.pointer (some ⟨w1.heap.size, 0, none⟩), .pointer (some ⟨w2.heap.size, 0, none⟩), .pointer (some ⟨w2.heap.size + 1, 0, none⟩)] _ enter_30 (full1_any n HN.out.1 hEf hT1 y4 ly cl ll cnf ⟨by have := hb2.size; have := hbf.size; omega, by omega, by omega, by omega⟩)
  have HF : Hid (∀ w3, ButN [b, c, r] wf.heap.size wf w3 → Below w.heap.size w w3 ∧ w3.cell? ⟨w2.heap.size + 1, 0, none⟩ = some (.int .i64 3)) := fun w3 h => by
    have hs : wn.heap.size ≤ wf.heap.size := Nat.le_trans hb2.size hbf.size
    refine ⟨(HB.out.2.1.trans ((hb2.trans (hbf.mono hb2.size)).mono HB.out.2.1.size)).trans (h.below (fun z hz => ?_) (Nat.le_trans HB.out.2.1.size hs)), ?_⟩
    · have := HB.out.2.1.size
      simp at hz; rcases hz with rfl | rfl | rfl <;> omega
    · rw [World.cell?_of_block (w := wf) (a := ⟨w2.heap.size + 1, 0, none⟩) (h.block _ ll.lt (by have := ll.ne; simp; omega))]; exact cl
  have c0 := y4.c0
  unfold yobj at hwf hlv
  have HWF := Lib.hid hwf.symm
  clear hl hE hb2 g1 g2 g3 g4 hb3 hE3 hb4 hz3 y4 cl ll ly hEf hbf hzn cnf hwf cn
  go_wp2_with fail
  refine hlv.mono ?_
  rintro e w3 ⟨rfl, rfl⟩
  clear hlv
  go_wp2_with (first | rw [HWF.out] | fail)
  refine hdo.mono ?_
  rintro e w3 ⟨u, rfl, rfl, hb⟩
  obtain ⟨hB, c3⟩ := HF.out w3 hb
  have HE := Lib.hid hB
  clear hdo hb HF hB
  go_wp2
  go_ret
  exact ⟨rfl, HE.out⟩
theorem fullLaw (a : Int) (ha : (Lit.int .u8 a).wf = true) (w : World) (hT : TabAt w) : Calls Tryd.prog 6 #[.int .u8 a] w fun e w' => e = .returned (.bool true) ∧ Below w.heap.size w w' := by
  simp [Lit.wf, IntKind.min, IntKind.max, IntKind.signed, IntKind.bits] at ha
  obtain ⟨n, rfl⟩ : ∃ n : Nat, a = (n : Int) := ⟨a.toNat, by omega⟩
  exact full_law w hT n (by omega)
end Go.Proofs.YteiikkkcjpfapaaDoor
