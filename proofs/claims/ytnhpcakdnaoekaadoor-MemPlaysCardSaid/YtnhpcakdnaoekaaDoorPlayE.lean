/- Does at an act that asks for a block. Conditions: memory is the call's own; counts and live cells are below 2 to the 30; at most 1000000 handles were told. -/
import Derived.Test.YtnhpcakdnaoekaaDoorPlayD
import Derived.Test.YtnhpcakdnaoekaaDoorVGen
namespace Go.Proofs.YtnhpcakdnaoekaaDoor
open Go.RowKit Go.Op
set_option maxRecDepth 100000

theorem as58_note (v : Value) (w : World) : (Instr.typeAssert (.iface 58 v) 20 58 true).run Tryd.prog w = .ok (.tuple #[v, .bool true]) w := by kernel_rfl
theorem as58_nil (w : World) : (Instr.typeAssert .nilIface 20 58 true).run Tryd.prog w = .ok (.tuple #[.agg #[.int .i64 0], .bool false]) w := by kernel_rfl
theorem load_is (m : M) (h : Int) : ∃ m4 v n er, (m.load h).1 = m4 ∧ (m.load h).2.1.v = v ∧ (m.load h).2.1.num = n ∧ (m.load h).2.2 = er ∧ ((v = .nilIface ∧ (er = 5 ∨ er = 6)) ∨ (v = .iface 58 (.agg #[.int .i64 n]) ∧ er = 0)) := by
  refine ⟨_, _, _, _, rfl, rfl, rfl, rfl, ?_⟩
  cases ha : m.at h with
  | none =>
    have e : m.load h = (m.miss, .no, 5) := by simp only [M.load, ha]
    rw [e]; exact .inl ⟨rfl, .inl rfl⟩
  | some px =>
    obtain ⟨p, x⟩ := px
    cases hh : x.held with
    | no =>
      have e : m.load h = (m.ask, .no, 6) := by simp only [M.load, ha, hh]
      rw [e]; exact .inl ⟨rfl, .inr rfl⟩
    | word n =>
      have e : m.load h = (m.ask, .no, 6) := by simp only [M.load, ha, hh]
      rw [e]; exact .inl ⟨rfl, .inr rfl⟩
    | note n =>
      have e : m.load h = (m.ask, .note n, 0) := by simp only [M.load, ha, hh]
      rw [e]; exact .inr ⟨rfl, rfl⟩
theorem cmp_eql4 {a b : Bool} {r : Bool} (xo yo : Operand) (w : World) (h : (a == b) = r) : (eqGuard .eql 4 xo yo (.bool a) (.bool b)).run Tryd.prog w = .ok () w ∧ (binOp .eql 4 (.bool a) (.bool b)).run Tryd.prog w = .ok (.bool r) w :=
  ⟨by simp [eqGuard], by subst h; go_simp⟩
/-- The world before and behind one store of a memory. -/
def Turned (w5 : World) (q : Nat) (x : Value) (n1 n2 n3 : Int) (bs : List Bool) (W : World) : Prop := ∃ W', Below w5.heap.size w5 W' ∧ W = if bs[0]? = some true then four W' q x n1 n2 n3 else W'
theorem due_false {ops : Array Oper} {effs : List Nat} {i : Nat} {bs : List Bool} (hd : FreeV.Due ops effs i bs) {j : Nat} (he : effs[0]? = some j := by rfl) (hj : (FreeV.depB ops ops.size j i = true ∨ j = i) := by first | exact .inr rfl | exact .inl (by kernel_rfl)) : bs[0]? = some false :=
  (hd 0 j he).2 hj
theorem load_keep {w5 : World} {q : Nat} {x : Value} {n1 n2 n3 : Int} {bs : List Bool} {W : World} (h : Turned w5 q x n1 n2 n3 bs W) (hb : bs[0]? = some false) {g : Nat} {cs : List Value} (hc : w5.rangeAt g 0 cs ∧ g < w5.heap.size ∧ cs.length = 4) :
    (Instr.loadAt 31 (.pointer (some ⟨g, 0, none⟩))).run Tryd.prog W = .ok (.agg cs.toArray) W := by
  obtain ⟨W', hB, rfl⟩ := h
  rw [if_neg (by rw [hb]; decide)]
  exact run_loadAt_mid _ g 0 31 cs _ (fun j v hj => by rw [hB.cell (p := ⟨g, 0 + j, none⟩) hc.2.1]; exact hc.1 j v hj) Tryd.underlying31 rfl (by rw [hc.2.2]; exact size31)
theorem load_note {w5 : World} {q : Nat} {x : Value} {n1 n2 n3 : Int} {bs : List Bool} {W : World} (h : Turned w5 q x n1 n2 n3 bs W) {g : Nat} {v : Int} (hq : q ≠ g) (hc : w5.cell? ⟨g, 0, none⟩ = some (.int .i64 v) ∧ g < w5.heap.size) :
    (Instr.loadAt 3 (.pointer (some ⟨g, 0, none⟩))).run Tryd.prog W = .ok (.int .i64 v) W := by
  obtain ⟨W', hB, rfl⟩ := h
  have h1 : W'.cell? ⟨g, 0, none⟩ = some (.int .i64 v) := (hB.cell (p := ⟨g, 0, none⟩) hc.2).trans hc.1
  split
  · exact load_3 (by unfold four; exact set_other (set_other (set_other (set_other h1 (.inl hq)) (.inl hq)) (.inl hq)) (.inl hq))
  · exact load_3 h1
theorem store_keep {w5 : World} {x : Value} {n1 n2 n3 : Int} {bs : List Bool} {W : World} {p : Nat} {y : Value} {k1 k2 k3 : Int} {z : Ac} (h : Turned w5 (p + 1 + 1) x n1 n2 n3 bs W) (hb : bs[0]? = some false) (hT : Trio p y k1 k2 k3 z w5) (hx : x.oneCell' = true) :
    ∃ w', (Instr.storeAt 31 (.pointer (some ⟨p + 1 + 1, 0, none⟩)) (.agg #[x, .int .i64 n1, .int .i64 n2, .int .i64 n3])).run Tryd.prog W = .ok () w' ∧ Turned w5 (p + 1 + 1) x n1 n2 n3 (bs.set 0 true) w' := by
  obtain ⟨W', hB, rfl⟩ := h
  rw [if_neg (by rw [hb]; decide)]
  have hT2 := hT.below hB
  refine ⟨_, run_storeAt_mid W' (p + 1 + 1) 0 31 #[x, .int .i64 n1, .int .i64 n2, .int .i64 n3] (fun j hj => ?_) size31 (by simp only [Array.all_eq_true']; intro v hv; simp at hv; rcases hv with rfl | rfl | rfl | rfl <;> first | exact hx | rfl), W', hB, ?_⟩
  · have hj4 : j < 4 := hj
    rw [Nat.zero_add]
    refine ⟨?_, hT2.fq j⟩
    match j, hj4 with
    | 0, _ => rw [hT2.q0]; rfl
    | 1, _ => rw [hT2.q1]; rfl
    | 2, _ => rw [hT2.q2]; rfl
    | 3, _ => rw [hT2.q3]; rfl
  · cases bs with
    | nil => cases hb
    | cons b t => rw [if_pos (by rfl)]; rfl
theorem after_load (w4 : World) (u : Value) (c4 cap4 : Nat) (m4 : M) (w5 : World) (e : w5 = (w4.alloc (.cells #[.slice (some ⟨c4, 0, none⟩) m4.cells.length cap4, .int .i64 m4.count, .int .i64 m4.live, .int .i64 m4.stale] 31)).alloc (.cells #[u] 58)) :
    (w5.rangeAt w4.heap.size 0 [.slice (some ⟨c4, 0, none⟩) m4.cells.length cap4, .int .i64 m4.count, .int .i64 m4.live, .int .i64 m4.stale] ∧ w4.heap.size < w5.heap.size ∧ 4 = 4) ∧ (w5.cell? ⟨w4.heap.size + 1, 0, none⟩ = some u ∧ w4.heap.size + 1 < w5.heap.size) := by
  generalize hu : w4.alloc (.cells #[.slice (some ⟨c4, 0, none⟩) m4.cells.length cap4, .int .i64 m4.count, .int .i64 m4.live, .int .i64 m4.stale] 31) = w1 at e
  have s1 : w1.heap.size = w4.heap.size + 1 := by rw [← hu]; simp
  have b1 : Below w1.heap.size w1 w5 := by rw [e]; exact (Below.refl _ _).alloc (Nat.le_refl _) _
  have s2 : w5.heap.size = w1.heap.size + 1 := by rw [e]; simp
  refine ⟨⟨fun j v hj => ?_, by omega, rfl⟩, ?_, by omega⟩
  · rw [Nat.zero_add, b1.cell (p := ⟨w4.heap.size, j, none⟩) (by show w4.heap.size < _; omega), ← hu]
    exact alloc_cell _ _ _ j v (by simpa using hj)
  · rw [← s1, e]
    exact alloc_cell _ _ _ 0 _ rfl
set_option maxHeartbeats 2000000 in
theorem does_load (w0 w : World) (b c r rc cap : Nat) (N : Int) (m : M) (z : Ac) (B : Nat) (ta : Option Addr) (tc : Nat) (told : List Int) (hH : Has w0 b c r N w m) (hR : RAt w rc m) (h1 : rc ≠ b) (h2 : rc ≠ c) (h3 : rc ≠ r) (hN : N ≤ 1000000)
    (hO : OwnI w B (.slice ta told.length tc) told) (hl : told.length ≤ 1000000) (hz : -9223372036854775808 ≤ z.pos ∧ z.pos ≤ 9223372036854775807) (ha : 0 ≤ z.act ∧ z.act ≤ 255) (hk : z.act % 9 = 2) :
    Calls Tryd.prog 12 #[.pointer (some ⟨b, 0, none⟩), m.rv rc cap, z.v, .slice ta told.length tc] w fun e w' => Done w0 w b c r rc (N + 1) e w' := by
  obtain ⟨hF, hb⟩ := first_at cap z hH hR h1 h2 h3
  have HA := Lib.hid (acthandle_any (first w rc cap m z) z B ta tc told (hO.below hb) hl hz)
  have HF := Lib.hid hF
  have HL := Lib.hid hR.lt
  have e0 : (z.act % 9 == 0) = false := by rw [beq_eq_false_iff_ne]; omega
  have e1 : (z.act % 9 == 1) = false := by rw [beq_eq_false_iff_ne]; omega
  have e2 : (z.act % 9 == 2) = true := by rw [beq_iff_eq]; omega
  have t1 := as58_nil
  have t2 := as58_note
  have mixed : Tryd.prog.follows .mixedOrders = true := by kernel_rfl
  unfold first at HA HF
  clear hF hb hH hR hO h1 h2 h3 hk hz
  unfold M.rv Ac.v
  go_enter Tryd.func12, Tryd.ntmps12
  go_wp2_with fail
  generalize ((w.alloc (Obj.cells #[Value.slice (some ⟨rc, 0, none⟩) m.cells.length cap, Value.int IntKind.i64 m.count, Value.int IntKind.i64 m.live, Value.int IntKind.i64 m.stale] 31)).alloc (Obj.cells #[Value.int IntKind.u8 z.act, Value.int IntKind.i64 z.pos, Value.int IntKind.i64 z.n, Value.int IntKind.i64 z.m, Value.bool z.raw] 37)).alloc (Obj.cells #[Value.slice none 0 0, Value.int IntKind.i64 0, Value.int IntKind.i64 0, Value.int IntKind.i64 0] 31) = w1 at HA HF ⊢
  refine HA.out.mono ?_
  rintro e w2 ⟨h, rfl, b2⟩
  have D2 := Lib.hid (HF.out.later b2)
  clear HA HF b2
  obtain ⟨a0, a1, a2, a3, z0, z1, z2, z3, z4, q0, q1, q2, q3, fq, sz⟩ := D2.out.trio
  go_wp2_with fail
  refine (D2.out.has.load (by omega) h).mono ?_
  have hr := fun w3 h3 => refload_any w3 rc cap m h h3 (D2.out.has.ok.mono (by omega))
  obtain ⟨m4, v, n4, er, s1, s2, s3, s4, hcase⟩ := load_is m h
  rw [s1, s3, s4] at hr
  rw [s1, s2, s4]
  rcases hcase with ⟨rfl, he⟩ | ⟨rfl, rfl⟩
  · have hne : (er == 0) = false := by rcases he with rfl | rfl <;> rfl
    clear he
    rintro e w3 ⟨rfl, h3, k3⟩
    have D3 := Lib.hid (D2.out.step h3 k3)
    have hq := hr w3 D3.out.rat
    clear s1 s2 s3 s4 hr D2 h3 k3 a0 a1 a2 a3 z0 z1 z2 z3 z4 q0 q1 q2 q3 fq sz
    obtain ⟨a0, a1, a2, a3, z0, z1, z2, z3, z4, q0, q1, q2, q3, fq, sz⟩ := D3.out.trio
    go_wp2_with fail
    refine hq.mono ?_
    rintro e w4 ⟨c4, cap4, rfl, r4, b4, hc4⟩
    have D4 := Lib.hid (D3.out.later b4)
    have R4 := Lib.hid r4
    have HC := Lib.hid (show c4 = rc ∨ w.heap.size + 1 + 1 < c4 by omega)
    clear hq D3 r4 b4 hc4 a0 a1 a2 a3 z0 z1 z2 z3 z4 q0 q1 q2 q3 fq sz
    obtain ⟨a0, a1, a2, a3, z0, z1, z2, z3, z4, q0, q1, q2, q3, fq, sz⟩ := D4.out.trio
    unfold M.rv
    go_wp2_with fail
    obtain ⟨w5, hw5⟩ : ∃ W, W = (w4.alloc (.cells #[.slice (some ⟨c4, 0, none⟩) m4.cells.length cap4, .int .i64 m4.count, .int .i64 m4.live, .int .i64 m4.stale] 31)).alloc (.cells #[.int .i64 0] 58) := ⟨_, rfl⟩
    rw [← hw5]
    have HB5 : Hid (Below w4.heap.size w4 w5) := by rw [hw5]; exact ((Below.refl _ _).alloc (Nat.le_refl _) _).alloc (by simp) _
    have HC5 := Lib.hid (after_load w4 (.int .i64 0) c4 cap4 m4 w5 hw5)
    clear hw5 a0 a1 a2 a3 z0 z1 z2 z3 z4 q0 q1 q2 q3 fq sz
    refine FreeV.region_puts (S := fun bs _ W => Turned w5 (w.heap.size + 1 + 1) (.slice (some ⟨c4, 0, none⟩) m4.cells.length cap4) m4.count m4.live m4.stale bs W) (effs := [20])
      (tab := [⟨0, fun _ => [.pointer (some ⟨w4.heap.size, 0, none⟩)], fun _ => .agg #[.slice (some ⟨c4, 0, none⟩) m4.cells.length cap4, .int .i64 m4.count, .int .i64 m4.live, .int .i64 m4.stale], .read⟩,
        ⟨3, fun _ => [.int .i64 er, .int .i64 er], fun _ => .bool true, .pure⟩,
        ⟨7, fun _ => [.int .i64 er, .int .i64 0], fun _ => .bool false, .pure⟩,
        ⟨8, fun _ => [.bool false, .bool false], fun _ => .bool true, .pure⟩,
        ⟨20, fun _ => [.pointer (some ⟨w.heap.size + 1 + 1, 0, none⟩), .agg #[.slice (some ⟨c4, 0, none⟩) m4.cells.length cap4, .int .i64 m4.count, .int .i64 m4.live, .int .i64 m4.stale]], fun _ => undef, .put⟩])
      (vs := [([], fun _ => .agg #[.slice (some ⟨c4, 0, none⟩) m4.cells.length cap4, .int .i64 m4.count, .int .i64 m4.live, .int .i64 m4.stale]), ([], fun _ => .int .i64 er), ([], fun _ => .int .i64 er), ([], fun _ => .bool true), ([], fun _ => .bool true), ([], fun _ => .bool false), ([], fun _ => .int .i64 er), ([], fun _ => .bool false), ([], fun _ => .bool true), ([], fun _ => .bool true), ([], fun _ => .bool true), ([], fun _ => .bool false), ([], fun _ => .bool true), ([], fun _ => .bool true), ([], fun _ => undef), ([], fun _ => undef), ([], fun _ => undef), ([], fun _ => undef), ([], fun _ => .bool true), ([], fun _ => .bool true), ([], fun _ => undef), ([], fun _ => .bool true), ([], fun _ => .int .i64 0)])
      (by kernel_rfl) ⟨by kernel_rfl, ⟨FreeV.d_load _ rfl rfl (fun β bs w h hd => load_keep h (due_false hd) HC5.out.1),
        FreeV.d_bin _ rfl rfl (fun _ xo yo w => cmp_eql3 xo yo w (by simp)),
        FreeV.d_bin _ rfl rfl (fun _ xo yo w => cmp_eql3 xo yo w hne),
        FreeV.d_bin _ rfl rfl (fun _ xo yo w => cmp_eql4 xo yo w rfl),
        FreeV.d_store _ rfl rfl 0 rfl (fun β bs w h hd => store_keep h (due_false hd) (D4.out.later HB5.out).trio rfl),
        trivial⟩,
        fun β => by kernel_rfl, fun β => by kernel_rfl, by kernel_rfl, fun β => by kernel_rfl, by kernel_rfl⟩ ⟨w5.drew, (Below.refl _ _).drew, rfl⟩ (fun β => Free.from_ 136 [.agg #[.slice (some ⟨c4, 0, none⟩) m4.cells.length cap4, .int .i64 m4.count, .int .i64 m4.live, .int .i64 m4.stale], .int .i64 er, .int .i64 er, .bool true, .bool true, .bool false, .int .i64 er, .bool false, .bool true, .bool true, .bool true, .bool false, .bool true, .bool true, undef, undef, undef, undef, .bool true, .bool true] ++ [(9, .bool true), (10, .int .i64 0)]) (fun β => by kernel_rfl) ?_
    intro β w6 h6
    obtain ⟨W, hW, rfl⟩ := h6
    have HBW := Lib.hid (HB5.out.trans (hW.mono HB5.out.size))
    clear hW
    rw [FreeX.puts_append, Free.puts_from _ _ _ (Nat.le_of_ble_eq_true rfl)]
    simp only [List.take_succ_cons, List.take_zero, List.drop_succ_cons, List.drop_zero, List.cons_append, List.nil_append, List.length_cons, List.length_nil, Nat.reduceAdd]
    unfold Free.puts
    simp only [List.foldl_cons, List.foldl_nil]
    go_wp2_with fail
    obtain ⟨g1, g2⟩ := done (D4.out.later HBW.out) cap4 (R4.out.below HBW.out R4.out.lt) (X := four W (w.heap.size + 1 + 1) (.slice (some ⟨c4, 0, none⟩) m4.cells.length cap4) m4.count m4.live m4.stale) (Below.refl _ _) HC.out HL.out
    exact bodyPost_ret (results_cell3 Tryd.results12 rfl rfl rfl g1) rfl ⟨m4, c4, cap4, 0, rfl, g2⟩
  · rintro e w3 ⟨rfl, h3, k3⟩
    have D3 := Lib.hid (D2.out.step h3 k3)
    have hq := hr w3 D3.out.rat
    clear s1 s2 s3 s4 hr D2 h3 k3 a0 a1 a2 a3 z0 z1 z2 z3 z4 q0 q1 q2 q3 fq sz
    obtain ⟨a0, a1, a2, a3, z0, z1, z2, z3, z4, q0, q1, q2, q3, fq, sz⟩ := D3.out.trio
    go_wp2_with fail
    refine hq.mono ?_
    rintro e w4 ⟨c4, cap4, rfl, r4, b4, hc4⟩
    have D4 := Lib.hid (D3.out.later b4)
    have R4 := Lib.hid r4
    have HC := Lib.hid (show c4 = rc ∨ w.heap.size + 1 + 1 < c4 by omega)
    clear hq D3 r4 b4 hc4 a0 a1 a2 a3 z0 z1 z2 z3 z4 q0 q1 q2 q3 fq sz
    obtain ⟨a0, a1, a2, a3, z0, z1, z2, z3, z4, q0, q1, q2, q3, fq, sz⟩ := D4.out.trio
    unfold M.rv
    go_wp2_with fail
    obtain ⟨w5, hw5⟩ : ∃ W, W = (w4.alloc (.cells #[.slice (some ⟨c4, 0, none⟩) m4.cells.length cap4, .int .i64 m4.count, .int .i64 m4.live, .int .i64 m4.stale] 31)).alloc (.cells #[.int .i64 n4] 58) := ⟨_, rfl⟩
    rw [← hw5]
    have HB5 : Hid (Below w4.heap.size w4 w5) := by rw [hw5]; exact ((Below.refl _ _).alloc (Nat.le_refl _) _).alloc (by simp) _
    have HC5 := Lib.hid (after_load w4 (.int .i64 n4) c4 cap4 m4 w5 hw5)
    clear hw5 a0 a1 a2 a3 z0 z1 z2 z3 z4 q0 q1 q2 q3 fq sz
    refine FreeV.region_puts (S := fun bs _ W => Turned w5 (w.heap.size + 1 + 1) (.slice (some ⟨c4, 0, none⟩) m4.cells.length cap4) m4.count m4.live m4.stale bs W) (effs := [20])
      (tab := [⟨0, fun _ => [.pointer (some ⟨w4.heap.size, 0, none⟩)], fun _ => .agg #[.slice (some ⟨c4, 0, none⟩) m4.cells.length cap4, .int .i64 m4.count, .int .i64 m4.live, .int .i64 m4.stale], .read⟩,
        ⟨3, fun _ => [.int .i64 0, .int .i64 0], fun _ => .bool true, .pure⟩,
        ⟨7, fun _ => [.int .i64 0, .int .i64 0], fun _ => .bool true, .pure⟩,
        ⟨8, fun _ => [.bool true, .bool true], fun _ => .bool true, .pure⟩,
        ⟨15, fun _ => [.pointer (some ⟨w4.heap.size + 1, 0, none⟩)], fun _ => .int .i64 n4, .read⟩,
        ⟨17, fun _ => [.int .i64 n4, .int .i64 n4], fun _ => .bool true, .pure⟩,
        ⟨20, fun _ => [.pointer (some ⟨w.heap.size + 1 + 1, 0, none⟩), .agg #[.slice (some ⟨c4, 0, none⟩) m4.cells.length cap4, .int .i64 m4.count, .int .i64 m4.live, .int .i64 m4.stale]], fun _ => undef, .put⟩])
      (vs := [([], fun _ => .agg #[.slice (some ⟨c4, 0, none⟩) m4.cells.length cap4, .int .i64 m4.count, .int .i64 m4.live, .int .i64 m4.stale]), ([], fun _ => .int .i64 0), ([], fun _ => .int .i64 0), ([], fun _ => .bool true), ([], fun _ => .bool true), ([], fun _ => .bool true), ([], fun _ => .int .i64 0), ([], fun _ => .bool true), ([], fun _ => .bool true), ([], fun _ => .bool true), ([], fun _ => .bool true), ([], fun _ => .bool true), ([], fun _ => .bool false), ([], fun _ => .bool false), ([], fun _ => .pointer (some ⟨w4.heap.size + 1, 0, none⟩)), ([], fun _ => .int .i64 n4), ([], fun _ => .int .i64 n4), ([], fun _ => .bool true), ([], fun _ => .bool true), ([], fun _ => .bool true), ([], fun _ => undef), ([], fun _ => .bool true), ([], fun _ => .int .i64 0)])
      (by kernel_rfl) ⟨by kernel_rfl, ⟨FreeV.d_load _ rfl rfl (fun β bs w h hd => load_keep h (due_false hd) HC5.out.1),
        FreeV.d_bin _ rfl rfl (fun _ xo yo w => cmp_eql3 xo yo w (by simp)),
        FreeV.d_bin _ rfl rfl (fun _ xo yo w => cmp_eql3 xo yo w (by decide)),
        FreeV.d_bin _ rfl rfl (fun _ xo yo w => cmp_eql4 xo yo w rfl),
        FreeV.d_load _ rfl rfl (fun β bs w h hd => load_note h (by have := D4.out.trio.sz; omega) HC5.out.2),
        FreeV.d_bin _ rfl rfl (fun _ xo yo w => cmp_eql3 xo yo w (by simp)),
        FreeV.d_store _ rfl rfl 0 rfl (fun β bs w h hd => store_keep h (due_false hd) (D4.out.later HB5.out).trio rfl),
        trivial⟩,
        fun β => by kernel_rfl, fun β => by kernel_rfl, by kernel_rfl, fun β => by kernel_rfl, by kernel_rfl⟩ ⟨w5.drew, (Below.refl _ _).drew, rfl⟩ (fun β => Free.from_ 136 [.agg #[.slice (some ⟨c4, 0, none⟩) m4.cells.length cap4, .int .i64 m4.count, .int .i64 m4.live, .int .i64 m4.stale], .int .i64 0, .int .i64 0, .bool true, .bool true, .bool true, .int .i64 0, .bool true, .bool true, .bool true, .bool true, .bool true, .bool false, .bool false, .pointer (some ⟨w4.heap.size + 1, 0, none⟩), .int .i64 n4, .int .i64 n4, .bool true, .bool true, .bool true] ++ [(9, .bool true), (10, .int .i64 0)]) (fun β => by kernel_rfl) ?_
    intro β w6 h6
    obtain ⟨W, hW, rfl⟩ := h6
    have HBW := Lib.hid (HB5.out.trans (hW.mono HB5.out.size))
    clear hW
    rw [FreeX.puts_append, Free.puts_from _ _ _ (Nat.le_of_ble_eq_true rfl)]
    simp only [List.take_succ_cons, List.take_zero, List.drop_succ_cons, List.drop_zero, List.cons_append, List.nil_append, List.length_cons, List.length_nil, Nat.reduceAdd]
    unfold Free.puts
    simp only [List.foldl_cons, List.foldl_nil]
    go_wp2_with fail
    obtain ⟨g1, g2⟩ := done (D4.out.later HBW.out) cap4 (R4.out.below HBW.out R4.out.lt) (X := four W (w.heap.size + 1 + 1) (.slice (some ⟨c4, 0, none⟩) m4.cells.length cap4) m4.count m4.live m4.stale) (Below.refl _ _) HC.out HL.out
    exact bodyPost_ret (results_cell3 Tryd.results12 rfl rfl rfl g1) rfl ⟨m4, c4, cap4, 0, rfl, g2⟩
end Go.Proofs.YtnhpcakdnaoekaaDoor
