/- Does at an act that stores. Conditions: memory is the call's own; counts and live cells are below 2 to the 30; at most 1000000 handles were told. -/
import Derived.Test.YtnhpcakdnaoekaaDoorPlayB
namespace Go.Proofs.YtnhpcakdnaoekaaDoor
open Go.RowKit Go.Op
set_option maxRecDepth 100000

set_option maxHeartbeats 2000000 in
theorem does_store (w0 w : World) (b c r rc cap : Nat) (N : Int) (m : M) (z : Ac) (B : Nat) (ta : Option Addr) (tc : Nat) (told : List Int) (hH : Has w0 b c r N w m) (hR : RAt w rc m) (h1 : rc ≠ b) (h2 : rc ≠ c) (h3 : rc ≠ r) (hN : N ≤ 1000000)
    (hO : OwnI w B (.slice ta told.length tc) told) (hl : told.length ≤ 1000000) (hz : -9223372036854775808 ≤ z.pos ∧ z.pos ≤ 9223372036854775807) (ha : 0 ≤ z.act ∧ z.act ≤ 255) (hk : z.act % 9 = 4) :
    Calls Tryd.prog 12 #[.pointer (some ⟨b, 0, none⟩), m.rv rc cap, z.v, .slice ta told.length tc] w fun e w' => Done w0 w b c r rc (N + 1) e w' := by
  obtain ⟨hF, hb⟩ := first_at cap z hH hR h1 h2 h3
  have HA := Lib.hid (acthandle_any (first w rc cap m z) z B ta tc told (hO.below hb) hl hz)
  have HF := Lib.hid hF
  have HL := Lib.hid hR.lt
  have e0 : (z.act % 9 == 0) = false := by rw [beq_eq_false_iff_ne]; omega
  have e1 : (z.act % 9 == 1) = false := by rw [beq_eq_false_iff_ne]; omega
  have e2 : (z.act % 9 == 2) = false := by rw [beq_eq_false_iff_ne]; omega
  have e3 : (z.act % 9 == 3) = false := by rw [beq_eq_false_iff_ne]; omega
  have e4 : (z.act % 9 == 4) = true := by rw [beq_iff_eq]; omega
  unfold first at HA HF
  clear hF hb hH hR hO h1 h2 h3 hk hz
  unfold M.rv Ac.v
  go_enter Tryd.func12, Tryd.ntmps12
  go_wp2_with fail
  generalize ((w.alloc (Obj.cells #[Value.slice (some ⟨rc, 0, none⟩) m.cells.length cap, Value.int IntKind.i64 m.count, Value.int IntKind.i64 m.live, Value.int IntKind.i64 m.stale] 31)).alloc (Obj.cells #[Value.int IntKind.u8 z.act, Value.int IntKind.i64 z.pos, Value.int IntKind.i64 z.n, Value.int IntKind.i64 z.m, Value.bool z.raw] 37)).alloc (Obj.cells #[Value.slice none 0 0, Value.int IntKind.i64 0, Value.int IntKind.i64 0, Value.int IntKind.i64 0] 31) = w1 at HA HF ⊢
  refine HA.out.mono ?_
  rintro e w2 ⟨h, rfl, b2⟩
  have D2 := Lib.hid (HF.out.later b2)
  clear HA HF b2
  obtain ⟨a0, a1, a2, a3, z0, z1, z2, z3, z4, q0, q1, q2, q3, fq, sz⟩ := D2.out.trio
  go_wp2_with fail
  refine (D2.out.has.store (by omega) h z.n).mono ?_
  obtain ⟨m4, er, hS⟩ : ∃ m4 er, m.store h z.n = (m4, er) := ⟨_, _, rfl⟩
  have hr := fun w3 h3 => refstore_any w3 rc cap m h h3 (D2.out.has.ok.mono (by omega)) z.n
  rw [hS] at hr ⊢
  simp only at hr
  rintro e w3 ⟨rfl, h3, k3⟩
  simp only at h3
  have D3 := Lib.hid (D2.out.step h3 k3)
  obtain ⟨q, hq⟩ := hr w3 D3.out.rat
  clear hS hr D2 h3 k3 a0 a1 a2 a3 z0 z1 z2 z3 z4 q0 q1 q2 q3 fq sz
  obtain ⟨a0, a1, a2, a3, z0, z1, z2, z3, z4, q0, q1, q2, q3, fq, sz⟩ := D3.out.trio
  go_wp2_with fail
  refine hq.mono ?_
  rintro e w4 ⟨c4, cap4, rfl, r4, b4, hc4⟩
  have D4 := Lib.hid (D3.out.later b4)
  have R4 := Lib.hid r4
  have HC := Lib.hid (show c4 = rc ∨ w.heap.size + 1 + 1 < c4 by omega)
  clear hq D3 r4 b4 hc4 a0 a1 a2 a3 z0 z1 z2 z3 z4 q0 q1 q2 q3 fq sz
  obtain ⟨a0, a1, a2, a3, z0, z1, z2, z3, z4, q0, q1, q2, q3, fq, sz⟩ := D4.out.trio
  unfold M.rv
  go_wp2_with fail
  obtain ⟨g1, g2⟩ := done D4.out cap4 R4.out (X := four w4 (w.heap.size + 1 + 1) (.slice (some ⟨c4, 0, none⟩) m4.cells.length cap4) m4.count m4.live m4.stale |>.alloc _) ((Below.refl _ _).alloc (by unfold four; simp [World.setCell]) _) HC.out HL.out
  exact bodyPost_ret (results_cell3 Tryd.results12 rfl rfl rfl g1) rfl ⟨m4, c4, cap4, 0, rfl, g2⟩
end Go.Proofs.YtnhpcakdnaoekaaDoor
