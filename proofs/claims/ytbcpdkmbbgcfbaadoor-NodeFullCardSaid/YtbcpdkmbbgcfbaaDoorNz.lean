/- NodeFull's law. Condition: the library's table stands. -/
import Derived.Test.YtbcpdkmbbgcfbaaDoorNy
namespace Go.Proofs.YtbcpdkmbbgcfbaaDoor
open Go.RowKit Go.Op
set_option maxRecDepth 100000

set_option maxHeartbeats 2000000 in
theorem full_law (w : World) (hT : TabAt w) (a8 b8 : Nat) (h1 : a8 ≤ 255) (h2 : b8 ≤ 255) : Calls Tryd.prog 8 #[.int .u8 (a8 : Int), .int .u8 (b8 : Int)] w fun e w' => e = .returned (.bool true) ∧ Below w.heap.size w w' := by
  have haw := awake_any w hT
  have a4 := as4_yes
  have hm := hmf
  have pe := ptr_eq24
  have HT := Lib.hid hT
  have q1 : (a8 : Int) ≤ 255 := by omega
  have q2 : (b8 : Int) ≤ 255 := by omega
  have e1 : ((1 + a8 % 20 : Nat) : Int) = 1 + (a8 : Int) % 20 := by omega
  have e2 : ((b8 % 20 : Nat) : Int) = (b8 : Int) % 20 := by omega
  have HN := Lib.hid (⟨e1, e2, by omega, by omega⟩ : ((1 + a8 % 20 : Nat) : Int) = 1 + (a8 : Int) % 20 ∧ ((b8 % 20 : Nat) : Int) = (b8 : Int) % 20 ∧ 1 + a8 % 20 ≤ 20 ∧ b8 % 20 ≤ 19)
  clear hT e1 e2 h1 h2
  go_enter Tryd.func8, Tryd.ntmps8
  go_wp2_with fail
  refine haw.mono ?_
  rintro e w1 ⟨rfl, hb1⟩
  obtain ⟨w3, hw3⟩ : ∃ W, W = (w1.alloc (.cells #[.int .i64 (1 + (a8 : Int) % 20)] 3)).alloc (.cells #[.int .i64 ((b8 : Int) % 20)] 3) := ⟨_, rfl⟩
  have hz3 : w3.heap.size = w1.heap.size + 2 := by rw [hw3]; simp
  have hb3 : Below w1.heap.size w1 w3 := by rw [hw3]; exact ((Below.refl _ _).alloc (Nat.le_refl _) _).alloc (by simp) _
  have v5 : SVar w3 w1.heap.size [.int .i64 (1 + (a8 : Int) % 20)] := by
    rw [hw3]
    exact (snew w1 [.int .i64 (1 + (a8 : Int) % 20)] 3).later ((Below.refl _ _).alloc (Nat.le_refl _) _)
  have v6 : SVar w3 (w1.heap.size + 1) [.int .i64 ((b8 : Int) % 20)] := by
    have := snew (w1.alloc (.cells #[.int .i64 (1 + (a8 : Int) % 20)] 3)) [.int .i64 ((b8 : Int) % 20)] 3
    rw [World.size_alloc] at this
    rw [hw3]; exact this
  have hbw : Below w.heap.size w w3 := hb1.trans (hb3.mono hb1.size)
  have hT3 : TabAt w3 := HT.out.below hbw
  have hnew := new_any (1 + a8 % 20) (by omega) (by have := HN.out; omega) w3
  rw [HN.out.1] at hnew
  have HB1 := Lib.hid hbw
  have HT3 := Lib.hid hT3
  have HW3 := Lib.hid hw3.symm
  have HZ := Lib.hid hz3
  have HV := Lib.hid (⟨v5, v6⟩ : _ ∧ _)
  have c5 := v5.cell (i := 0) rfl
  clear haw hb1 hb3 hw3 hz3 hbw hT3 v5 v6
  go_wp2_with (first | rw [HW3.out] | fail)
  refine hnew.mono ?_
  rintro e w4 ⟨b, c, r, rfl, hAt, hb4, g1, g2, g3⟩
  have hE0 : HasE w3 b c r [] w4 (M.new (1 + a8 % 20)) :=
    ⟨M.new (1 + a8 % 20), ⟨hAt, new_ok _ (by have := HN.out; omega), hb4, by omega, by omega, by omega⟩, (fun i x hx => by
      simp only [M.new, List.getElem?_replicate] at hx
      split at hx
      · cases hx; exact no_in
      · cases hx), Int.le_refl _, new_e _, fun g l hg => (by cases hg)⟩
  obtain ⟨w5, hw5⟩ : ∃ W, W = w4.alloc (.cells #[.pointer (some ⟨b, 0, none⟩)] 24) := ⟨_, rfl⟩
  have b5 : Below w4.heap.size w4 w5 := by rw [hw5]; exact (Below.refl _ _).alloc (Nat.le_refl _) _
  have hz5 : w5.heap.size = w4.heap.size + 1 := by rw [hw5]; simp
  have v7 : SVar w5 w4.heap.size [.pointer (some ⟨b, 0, none⟩)] := by rw [hw5]; exact snew _ _ _
  have l7 : LocM w3 b c r [] w5 w4.heap.size := by rw [hw5]; exact hE0.fresh _
  have hE5 := hE0.later b5
  have hz3 := HZ.out
  have hs4 := hb4.size
  have v55 : SVar w5 w1.heap.size [.int .i64 (1 + (a8 : Int) % 20)] := (HV.out.1.same hs4 (hb4.block _ (by omega))).later b5
  have v65 : SVar w5 (w1.heap.size + 1) [.int .i64 ((b8 : Int) % 20)] := (HV.out.2.same hs4 (hb4.block _ (by omega))).later b5
  have hdo := do_any w5 b 40 #[.pointer (some ⟨w1.heap.size + 1, 0, none⟩), .pointer (some ⟨w1.heap.size, 0, none⟩), .pointer (some ⟨w4.heap.size, 0, none⟩)] _ ent_40
    (full1_any (1 + a8 % 20) (b8 % 20) ⟨by omega, HN.out.2.2.1⟩ HN.out.2.2.2 hE5 HT3.out (by rw [HN.out.2.1]; exact v65.cell (i := 0) rfl) (by rw [HN.out.1]; exact v55.cell (i := 0) rfl) (v7.cell (i := 0) rfl)
      ⟨by omega, by simp only [List.mem_cons, List.not_mem_nil, or_false]; omega⟩ ⟨by omega, by simp only [List.mem_cons, List.not_mem_nil, or_false]; omega⟩ ⟨by omega, by have := l7.ne; simp only [List.mem_cons, List.not_mem_nil, or_false]; omega⟩)
  have HF : Hid (∀ w6, ButN [b, c, r] w5.heap.size w5 w6 → Below w.heap.size w w6) := fun w6 h6 => HB1.out.trans ((hE5.butBelow h6).mono HB1.out.size)
  have c7 := v7.cell (i := 0) rfl
  have HW5 := Lib.hid hw5.symm
  clear hnew hAt hb4 g1 g2 g3 hE0 hw5 b5 hz5 v7 l7 hE5 hz3 hs4 v55 v65 c5
  go_wp2_with (first | rw [HW5.out] | fail)
  refine hdo.mono ?_
  rintro e w6 ⟨u, rfl, rfl, hb⟩
  have HE := Lib.hid (HF.out w6 hb)
  clear hdo hb HF
  go_wp2
  go_ret
  exact ⟨rfl, HE.out⟩
theorem fullLaw (a : Int) (ha : (Lit.int .u8 a).wf = true) (d : Int) (hd : (Lit.int .u8 d).wf = true) (w : World) (hT : TabAt w) : Calls Tryd.prog 8 #[.int .u8 a, .int .u8 d] w fun e w' => e = .returned (.bool true) ∧ Below w.heap.size w w' := by
  simp [Lit.wf, IntKind.min, IntKind.max, IntKind.signed, IntKind.bits] at ha hd
  obtain ⟨n, rfl⟩ : ∃ n : Nat, a = (n : Int) := ⟨a.toNat, by omega⟩
  obtain ⟨k, rfl⟩ : ∃ n : Nat, d = (n : Int) := ⟨d.toNat, by omega⟩
  exact full_law w hT n k (by omega) (by omega)
end Go.Proofs.YtbcpdkmbbgcfbaaDoor
