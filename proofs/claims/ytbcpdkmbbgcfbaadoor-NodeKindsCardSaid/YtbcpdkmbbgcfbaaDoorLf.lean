/- What the law's left comes to. Condition: the library's table stands. -/
import Derived.Test.YtbcpdkmbbgcfbaaDoorLe
namespace Go.Proofs.YtbcpdkmbbgcfbaaDoor
open Go.RowKit Go.Op
set_option maxRecDepth 100000

theorem ent_67 (xs : Array Value) (w : World) : (callFunc 67 xs).run Tryd.prog w = .ok (.enter 67 xs) w := by kernel_rfl
/-- Behind left. -/
def Left (w0 : World) (b c r : Nat) (G : List (Nat × List Value)) (w : World) (m : M) (vs : List Int) (e : Ending) (W : World) : Prop :=
  ∃ (sl : Sl) (G2 : List (Nat × List Value)) (m2 : M), e = .returned (.tuple #[.slice sl.a sl.n sl.cap, .bool true]) ∧ ButN [b, c, r] w.heap.size w W ∧ HasE w0 b c r G2 W m2 ∧ Grow w G G2 ∧ AskN m m2 400 ∧ sl.In G2 (ints vs)
section
variable {w0 w : World} {b c r : Nat} {G : List (Nat × List Value)} {m : M}
set_option maxHeartbeats 2000000 in
theorem left_any (h : HasE w0 b c r G w m) (hcm : m.count ≤ 100000) {y : Yd} {hd p1 p2 : Int} {x0 : Int × Rv × Int} {l' : List (Int × Rv × Int)} (hw : m.look hd = some (.word x0.1)) (hc : Ch m x0.1 (x0 :: l')) (hlen : (x0 :: l').length ≤ 40) (hver : ∀ x, x ∈ x0 :: l' → x.2.1.ver ≤ 1000000) (hn : y.n = ⟨⟨#[107]⟩, hd, [p1, p2]⟩)
    {chv : List Int} (hch : y.ch.In G (ints chv)) (hcl : (x0 :: l').length ≤ chv.length) (hcl2 : chv.length ≤ 1000) (hlt : b < w.heap.size ∧ c < w.heap.size ∧ r < w.heap.size) :
    Calls Tryd.prog 49 #[Yd.v b y] w fun e w' => Left w0 b c r G w m ((x0 :: l').map fun x => x.2.1.ver) e w' := by
  obtain ⟨wa, hwa⟩ : ∃ W, W = ((w.alloc (.cells (Yd.row b y).toArray 29)).alloc (.cells #[.slice none 0 0] 25)).alloc (.cells #[.bool true] 4) := ⟨_, rfl⟩
  have b1 := (Below.refl w.heap.size w).alloc (Nat.le_refl _) (.cells (Yd.row b y).toArray 29)
  have b2 := (Below.refl (w.alloc (.cells (Yd.row b y).toArray 29)).heap.size (w.alloc (.cells (Yd.row b y).toArray 29))).alloc (Nat.le_refl _) (.cells #[.slice none 0 0] 25)
  have b3 := (Below.refl ((w.alloc (.cells (Yd.row b y).toArray 29)).alloc (.cells #[.slice none 0 0] 25)).heap.size ((w.alloc (.cells (Yd.row b y).toArray 29)).alloc (.cells #[.slice none 0 0] 25))).alloc (Nat.le_refl _) (.cells #[.bool true] 4)
  have z1 : (w.alloc (.cells (Yd.row b y).toArray 29)).heap.size = w.heap.size + 1 := by simp
  have z2 : ((w.alloc (.cells (Yd.row b y).toArray 29)).alloc (.cells #[.slice none 0 0] 25)).heap.size = w.heap.size + 1 + 1 := by simp
  have hza : wa.heap.size = w.heap.size + 3 := by rw [hwa]; simp
  have ba : Below w.heap.size w wa := by rw [hwa]; exact (b1.trans (b2.mono (by simp))).trans (b3.mono (by simp; omega))
  have s1 : SVar wa w.heap.size (Yd.row b y) := by rw [hwa]; exact ((snew w (Yd.row b y) 29).later b2).later b3
  have s2 : SVar wa (w.heap.size + 1) [.slice none 0 0] := by
    have := (snew (w.alloc (.cells (Yd.row b y).toArray 29)) [.slice none 0 0] 25).later b3
    rw [z1] at this
    rw [hwa]; exact this
  have s3 : SVar wa (w.heap.size + 1 + 1) [.bool true] := by
    have := snew ((w.alloc (.cells (Yd.row b y).toArray 29)).alloc (.cells #[.slice none 0 0] 25)) [.bool true] 4
    rw [z2] at this
    rw [hwa]; exact this
  have l2 : LocM w0 b c r G wa (w.heap.size + 1) := by
    have := (h.later b1).fresh (.cells #[.slice none 0 0] 25)
    rw [z1] at this
    rw [hwa]; exact this.later b3.size (Grow.refl _ _)
  have l3 : LocM w0 b c r G wa (w.heap.size + 1 + 1) := by
    have := ((h.later b1).later b2).fresh (.cells #[.bool true] 4)
    rw [z2] at this
    rw [hwa]; exact this
  have hEa := h.later ba
  have hdo := do_any wa b 67 #[.pointer (some ⟨w.heap.size, 0, none⟩), .pointer (some ⟨w.heap.size + 1 + 1, 0, none⟩), .pointer (some ⟨w.heap.size + 1, 0, none⟩)] _ ent_67
    (left1_any hEa hcm hw hc hlen hver hn hch hcl hcl2 s1 ⟨by omega, by simp only [List.mem_cons, List.not_mem_nil, or_false]; omega⟩ ⟨_, s3⟩ l3 s2 l2 (by omega))
  have hm := hmf
  have c0 := s1.cell (i := 0) rfl
  simp only [Yd.row] at hwa
  have HW := Lib.hid hwa.symm
  have HB := Lib.hid (⟨ba, hza, hlt⟩ : _ ∧ _ ∧ _)
  unfold Yd.v
  clear h hcm hw hc hlen hver hn hch hcl hcl2 hlt hwa b1 b2 b3 z1 z2 hza ba s1 s2 s3 l2 l3 hEa
  go_enter Tryd.func49, Tryd.ntmps49
  go_wp2_with (first | rw [HW.out] | fail)
  refine hdo.mono ?_
  rintro e w2 ⟨u, rfl, rfl, G2, m2, sl, q1, q2, q3, q4, q5, q6, q7⟩
  have co := q5.cell (i := 0) rfl
  have cr := q6.cell (i := 0) rfl
  have HX : Hid (∀ W, Below w2.heap.size w2 W → Left w0 b c r G w m ((x0 :: l').map fun x => x.2.1.ver) (.returned (.tuple #[.slice sl.a sl.n sl.cap, .bool true])) W) := fun W hW => by
    obtain ⟨ba, hza, hlt⟩ := HB.out
    have hs := q1.size
    refine ⟨sl, G2, m2, rfl, ⟨hW.os.trans (q1.os.trans ba.os), hW.tape.trans (q1.tape.trans ba.tape), hW.output.trans (q1.output.trans ba.output), by have := hW.size; omega, fun z hz hn => ?_⟩, q2.later hW, q3.from ba.size, q4, q7⟩
    rw [hW.block z (by omega), q1.block z (by omega) (by simp only [List.mem_cons, List.not_mem_nil, or_false] at hn ⊢; omega)]
    exact ba.block z hz
  clear hdo q1 q2 q3 q4 q5 q6 q7 HB HW c0
  go_wp2_with fail
  go_quiet (fail)
  go_wp2
  go_ret2
  exact HX.out _ (below_drewN _ _)
end
end Go.Proofs.YtbcpdkmbbgcfbaaDoor
