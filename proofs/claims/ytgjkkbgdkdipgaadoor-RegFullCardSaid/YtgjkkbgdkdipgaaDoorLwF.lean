/- RegFull's law. Condition: the library's table stands. -/
import Derived.Test.YtgjkkbgdkdipgaaDoorLwD
namespace Go.Proofs.YtgjkkbgdkdipgaaDoor
open Go.RowKit Go.Op
set_option maxRecDepth 100000

set_option maxHeartbeats 2000000 in
theorem full_law (w : World) (hT : TabAt w) (c8 a8 s8 : Nat) (h1 : c8 ≤ 255) (h2 : a8 ≤ 255) (h3 : s8 ≤ 255) : Calls Tryd.prog 6 #[.int .u8 (c8 : Int), .int .u8 (a8 : Int), .int .u8 (s8 : Int)] w fun e w' => e = .returned (.bool true) ∧ Below w.heap.size w w' := by
  have haw := awake_any w hT
  have a4 := as4_yes
  have hm := hmf1
  have pe := ptr_eq24
  have HT := Lib.hid hT
  have q1 : (c8 : Int) ≤ 255 := by omega
  have q2 : (a8 : Int) ≤ 255 := by omega
  have q3 : (s8 : Int) ≤ 255 := by omega
  have e1 : ((1 + c8 % 20 : Nat) : Int) = 1 + (c8 : Int) % 20 := by omega
  have e2 : ((1 + a8 % 12 : Nat) : Int) = 1 + (a8 : Int) % 12 := by omega
  have e3 : ((s8 % 12 : Nat) : Int) = (s8 : Int) % 12 := by omega
  have HN := Lib.hid (⟨e1, e2, e3, by omega, by omega, by omega⟩ : ((1 + c8 % 20 : Nat) : Int) = 1 + (c8 : Int) % 20 ∧ ((1 + a8 % 12 : Nat) : Int) = 1 + (a8 : Int) % 12 ∧ ((s8 % 12 : Nat) : Int) = (s8 : Int) % 12 ∧ 1 + c8 % 20 ≤ 20 ∧ 1 + a8 % 12 ≤ 12 ∧ s8 % 12 ≤ 11)
  clear hT e1 e2 e3 h1 h2 h3
  go_enter Tryd.func6, Tryd.ntmps6
  go_wp2_with fail
  refine haw.mono ?_
  rintro e w1 ⟨rfl, hb1⟩
  have hnew := new_any (1 + c8 % 20) (by omega) (by have := HN.out; omega) w1
  rw [HN.out.1] at hnew
  have HB1 := Lib.hid hb1
  have HT1 := Lib.hid (HT.out.below hb1)
  clear haw hb1
  go_wp2_with fail
  refine hnew.mono ?_
  rintro e w2 ⟨b, c, r, rfl, hAt, hb2, g1, g2, g3⟩
  have hE0 : HasE w1 b c r [] w2 (M.new (1 + c8 % 20)) :=
    ⟨M.new (1 + c8 % 20), ⟨hAt, new_ok _ (by have := HN.out; omega), hb2, by omega, by omega, by omega⟩, (fun i x hx => by
      simp only [M.new, List.getElem?_replicate] at hx
      split at hx
      · cases hx; exact no_in
      · cases hx), Int.le_refl _, new_e _, fun g l hg => (by cases hg)⟩
  obtain ⟨w3, hw3⟩ : ∃ W, W = w2.alloc (.cells #[.pointer (some ⟨b, 0, none⟩)] 24) := ⟨_, rfl⟩
  have b3 := (Below.refl w2.heap.size w2).alloc (Nat.le_refl _) (.cells #[.pointer (some ⟨b, 0, none⟩)] 24)
  rw [← hw3] at b3
  have cm3 : w3.cell? ⟨w2.heap.size, 0, none⟩ = some (.pointer (some ⟨b, 0, none⟩)) := by rw [hw3]; simp [go_sem]
  have z3 : w3.heap.size = w2.heap.size + 1 := by rw [hw3]; simp
  have lm3 := hE0.fresh (.cells #[.pointer (some ⟨b, 0, none⟩)] 24)
  rw [← hw3] at lm3
  have HW3 := Lib.hid hw3.symm
  obtain ⟨w4, hw4⟩ : ∃ W, W = w3.alloc (.cells #[.int .i64 (1 + (a8 : Int) % 12)] 3) := ⟨_, rfl⟩
  have b4 := (Below.refl w3.heap.size w3).alloc (Nat.le_refl _) (.cells #[.int .i64 (1 + (a8 : Int) % 12)] 3)
  rw [← hw4] at b4
  have ca4 : w4.cell? ⟨w3.heap.size, 0, none⟩ = some (.int .i64 (1 + (a8 : Int) % 12)) := by rw [hw4]; simp [go_sem]
  have z4 : w4.heap.size = w3.heap.size + 1 := by rw [hw4]; simp
  have la4 := (hE0.later b3).fresh (.cells #[.int .i64 (1 + (a8 : Int) % 12)] 3)
  rw [← hw4] at la4
  obtain ⟨w5, hw5⟩ : ∃ W, W = w4.alloc (.cells #[.int .i64 ((s8 : Int) % 12)] 3) := ⟨_, rfl⟩
  have b5 := (Below.refl w4.heap.size w4).alloc (Nat.le_refl _) (.cells #[.int .i64 ((s8 : Int) % 12)] 3)
  rw [← hw5] at b5
  have cs5 : w5.cell? ⟨w4.heap.size, 0, none⟩ = some (.int .i64 ((s8 : Int) % 12)) := by rw [hw5]; simp [go_sem]
  have ls5 := ((hE0.later b3).later b4).fresh (.cells #[.int .i64 ((s8 : Int) % 12)] 3)
  rw [← hw5] at ls5
  have ca5 := (b5.cell (p := ⟨w3.heap.size, 0, none⟩) (by simp only; omega)).trans ca4
  have cm5 := (b5.cell (p := ⟨w2.heap.size, 0, none⟩) (by simp only; omega)).trans ((b4.cell (p := ⟨w2.heap.size, 0, none⟩) (by simp only; omega)).trans cm3)
  have hE5 := ((hE0.later b3).later b4).later b5
  have lm5 := (lm3.later b4.size (Grow.refl _ _)).later b5.size (Grow.refl _ _)
  have la5 := la4.later b5.size (Grow.refl _ _)
  have hdo := do_any w5 b 34 #[.pointer (some ⟨w3.heap.size, 0, none⟩), .pointer (some ⟨w4.heap.size, 0, none⟩), .pointer (some ⟨w2.heap.size, 0, none⟩)] _ enter_34
    (full1_any (1 + c8 % 20) (1 + a8 % 12) (s8 % 12) ⟨by omega, HN.out.2.2.2.1⟩ ⟨by omega, HN.out.2.2.2.2.1⟩ HN.out.2.2.2.2.2 hE5 HT1.out (by rw [HN.out.2.1]; exact ca5) (by rw [HN.out.2.2.1]; exact cs5) cm5 la5 ls5 lm5)
  have HF : Hid (∀ w6, ButN [b, c, r] w5.heap.size w5 w6 → Below w.heap.size w w6) := fun w6 h6 => HB1.out.trans ((hE5.butBelow h6).mono HB1.out.size)
  rw [z4, z3] at hdo
  have HW4 := Lib.hid hw4.symm
  have HW5 := Lib.hid hw5.symm
  clear hnew hAt hb2 g1 g2 g3 hE0 b3 lm3 b4 ca4 la4 b5 ls5 ca5 hE5 lm5 la5 hw3 hw4 hw5 cs5
  go_wp2_with (first | rw [HW3.out] | rw [HW4.out] | rw [HW5.out] | fail)
  refine hdo.mono ?_
  rintro e w6 ⟨u, rfl, rfl, hb⟩
  have HE := Lib.hid (HF.out w6 hb)
  clear hdo hb HF
  go_wp2
  go_ret
  exact ⟨rfl, HE.out⟩
theorem fullLaw (a : Int) (ha : (Lit.int .u8 a).wf = true) (d : Int) (hd : (Lit.int .u8 d).wf = true) (s : Int) (hs : (Lit.int .u8 s).wf = true) (w : World) (hT : TabAt w) : Calls Tryd.prog 6 #[.int .u8 a, .int .u8 d, .int .u8 s] w fun e w' => e = .returned (.bool true) ∧ Below w.heap.size w w' := by
  simp [Lit.wf, IntKind.min, IntKind.max, IntKind.signed, IntKind.bits] at ha hd hs
  obtain ⟨n, rfl⟩ : ∃ n : Nat, a = (n : Int) := ⟨a.toNat, by omega⟩
  obtain ⟨k, rfl⟩ : ∃ n : Nat, d = (n : Int) := ⟨d.toNat, by omega⟩
  obtain ⟨j, rfl⟩ : ∃ n : Nat, s = (n : Int) := ⟨s.toNat, by omega⟩
  exact full_law w hT n k j (by omega) (by omega) (by omega)
end Go.Proofs.YtgjkkbgdkdipgaaDoor
