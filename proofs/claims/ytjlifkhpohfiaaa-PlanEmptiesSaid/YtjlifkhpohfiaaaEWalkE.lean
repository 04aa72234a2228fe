/- What rev.live, rev.Live answer of any revision: the entries that aren't gone, and how many. Conditions: at most 1000000 entries. -/
import Derived.Test.YtjlifkhpohfiaaaEWalkD
namespace Go.Proofs.Ytjlifkhpohfiaaa
open Go.RowKit Go.Op
set_option maxRecDepth 100000

theorem live_any (R : Rm) (s : Rs) (w : World) (hl : R.l.length ≤ 1000000) (hR : RevAt w R s) :
    Calls Try.prog 42 #[R.v s] w fun e w' => ∃ g, e = .returned (.slice (some ⟨g, 0, none⟩) (liveL R.l).length R.l.length) ∧ w.heap.size < g ∧ OwnE 77 w' g (.slice (some ⟨g, 0, none⟩) (liveL R.l).length R.l.length) (liveL R.l) ∧ Below w.heap.size w w' := by
  have he := fun w' (hb : Below w.heap.size w w') => entries_any R s w' hl (hR.below hb)
  have HE := Lib.hid he
  clear he hR
  obtain ⟨ver, rate, sp, dead, l, tab⟩ := R
  obtain ⟨lo, hi, all⟩ := sp
  obtain ⟨ka, kc, va, vc, ga, gc, ta, tc⟩ := s
  have ha := HE.out _ ((Below.refl w.heap.size w).alloc (Nat.le_refl _) (.cells #[.int .i64 ver, .int .i64 rate, .string lo, .string hi, .bool all, .bool dead, .slice ka l.length kc, .slice va l.length vc, .slice ga l.length gc, .slice ta tab.length tc] 50))
  have B := (Below.refl w.heap.size w).alloc (Nat.le_refl _) (.cells #[.int .i64 ver, .int .i64 rate, .string lo, .string hi, .bool all, .bool dead, .slice ka l.length kc, .slice va l.length vc, .slice ga l.length gc, .slice ta tab.length tc] 50)
  clear HE
  simp only [Rm.v] at hl ha ⊢
  have HB := Lib.hid B
  clear B
  go_enter Try.func42, Try.ntmps42
  go_wp2_with fail
  refine ha.mono ?_
  rintro e w1 ⟨g, rfl, hgw, o1, b1⟩
  simp at hgw
  have s1 := o1.cap.2.2.2
  have hd := delete_any g l.length g l w1 hl (by omega) o1
  have HB1 := Lib.hid (HB.out.trans (b1.mono (by simp)))
  clear o1 b1 ha
  go_wp2_with fail
  refine hd.mono ?_
  rintro e w2 ⟨rfl, o2, b2⟩
  have HO := Lib.hid o2
  have HB2 := Lib.hid (HB1.out.trans (b2.mono (by omega)))
  clear o2 b2
  go_wp2
  go_ret
  exact ⟨g, rfl, by omega, HO.out, HB2.out⟩
theorem nlive_any (R : Rm) (s : Rs) (w : World) (hl : R.l.length ≤ 1000000) (hR : RevAt w R s) :
    Calls Try.prog 25 #[R.v s] w fun e w' => e = .returned (.int .i64 ((liveL R.l).length : Int)) ∧ Below w.heap.size w w' := by
  have he := fun w' (hb : Below w.heap.size w w') => live_any R s w' hl (hR.below hb)
  have HE := Lib.hid he
  clear he hR
  obtain ⟨ver, rate, sp, dead, l, tab⟩ := R
  obtain ⟨lo, hi, all⟩ := sp
  obtain ⟨ka, kc, va, vc, ga, gc, ta, tc⟩ := s
  have B := (Below.refl w.heap.size w).alloc (Nat.le_refl _) (.cells #[.int .i64 ver, .int .i64 rate, .string lo, .string hi, .bool all, .bool dead, .slice ka l.length kc, .slice va l.length vc, .slice ga l.length gc, .slice ta tab.length tc] 50)
  have ha := HE.out _ B
  clear HE
  simp only [Rm.v] at hl ha ⊢
  have HB := Lib.hid B
  clear B
  go_enter Try.func25, Try.ntmps25
  go_wp2_with fail
  refine ha.mono ?_
  rintro e w1 ⟨g, rfl, hgw, o1, b1⟩
  have HB1 := Lib.hid (HB.out.trans (b1.mono (by simp)))
  clear o1 b1 ha
  go_wp2
  go_ret
  exact ⟨rfl, HB1.out⟩
end Go.Proofs.Ytjlifkhpohfiaaa
