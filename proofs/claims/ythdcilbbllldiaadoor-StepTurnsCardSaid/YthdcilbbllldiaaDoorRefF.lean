/- The reference's Free, Reap, Retire, Swap. Conditions: counts and live cells are below 2 to the 61; generations are between 0 and 16384; only what holds something is retired. -/
import Derived.Test.YthdcilbbllldiaaDoorRefE
namespace Go.Proofs.YthdcilbbllldiaaDoor
open Go.RowKit Go.Op
set_option maxRecDepth 100000

/-- What is there when a call of the reference has counted and asks for the place. -/
theorem pre_ask (w : World) (c cap : Nat) (m : M) : Pre w w.heap.size (.slice (some ⟨c, 0, none⟩) m.cells.length cap) (.slice none 0 0) (m.count + 1) m.live m.stale 0 0 0 ((w.alloc (.cells #[.slice (some ⟨c, 0, none⟩) m.cells.length cap, .int .i64 (m.count + 1), .int .i64 m.live, .int .i64 m.stale] 29)).alloc (.cells #[.slice none 0 0, .int .i64 0, .int .i64 0, .int .i64 0] 29)) := pre_two w _ _ _ _ _ _ _ _
theorem M.Ok.half {m : M} (h : m.Ok 2305843009213693952) : m.ask.Ok 4611686018427387904 := h.ask.mono (by decide)

theorem reffree_no (w : World) (c cap : Nat) (m : M) (h : Int) (hA : RAt w c m) (hO : m.Ok 2305843009213693952) (hs : m.seek h = none) :
    Calls Tryd.prog 38 #[m.rv c cap, .int .i64 h] w fun e w' => RRet w c m.miss [.int .i64 5] e w' := by
  have hc := hO.cnt
  have hst := hO.stl
  have hlv := hO.liv
  have hln := hO.len
  have hlt := hA.lt
  have HE : Hid (∀ w2, Below w.heap.size w w2 → RAt w2 c m) := fun w2 hb => hA.below hb hA.lt
  have HP : Hid (∀ w2, Below w.heap.size w w2 → Calls Tryd.prog 55 #[m.ask.rv c cap, .int .i64 h] w2 fun e w' => e = .returned (.int .i64 (-1)) ∧ Below w2.heap.size w2 w') := fun w2 hb =>
    place_no w2 c cap m.ask h ((hA.below hb hA.lt).same rfl) hO.half hs
  clear hA hO hs
  unfold M.rv
  go_enter Tryd.func38, Tryd.ntmps38
  go_wp2_with fail
  have hP := pre_ask w c cap m
  generalize (w.alloc (Obj.cells #[Value.slice (some ⟨c, 0, none⟩) m.cells.length cap, Value.int IntKind.i64 (m.count + 1), Value.int IntKind.i64 m.live, Value.int IntKind.i64 m.stale] 29)).alloc (Obj.cells #[Value.slice none 0 0, Value.int IntKind.i64 0, Value.int IntKind.i64 0, Value.int IntKind.i64 0] 29) = w1 at hP ⊢
  refine (HP.out w1 hP.be).mono ?_
  rintro e w2 ⟨rfl, b2⟩
  have hP2 := hP.later b2 hP.sz
  have HR := Lib.hid hP2.res
  have HX := Lib.hid (HE.out w2 hP2.be)
  obtain ⟨a0, a1, a2, a3, q0, q1, q2, q3, fa, fb, sz, _, _⟩ := hP2
  clear hP b2
  go_wp2_with fail
  obtain ⟨g1, g2, g3⟩ := give (HR.out.set (p := w.heap.size) (i := 3) (u := .int .i64 (m.stale + 1)) (by omega) (Nat.le_refl _)) cap (m := m.miss) (((HX.out.set (p := w.heap.size) (by omega) 3 (.int .i64 (m.stale + 1)))).same rfl) (by omega)
  exact bodyPost_ret (results_cell2 Tryd.results38 rfl rfl g1) rfl ⟨c, cap, rfl, g2, g3, .inl rfl⟩
theorem reffree_yes (w : World) (c cap : Nat) (m : M) (h : Int) (p : Nat) (x : Cl) (hA : RAt w c m) (hO : m.Ok 2305843009213693952) (hs : m.seek h = some p) (hx : m.cells[p]? = some x) :
    Calls Tryd.prog 38 #[m.rv c cap, .int .i64 h] w fun e w' => RRet w c (m.ask.drop p x) [.int .i64 0] e w' := by
  have hc := hO.cnt
  have hst := hO.stl
  have hlv := hO.liv
  have hln := hO.len
  have hlt := hA.lt
  have HE : Hid (∀ w2, Below w.heap.size w w2 → RAt w2 c m) := fun w2 hb => hA.below hb hA.lt
  have HP : Hid (∀ w2, Below w.heap.size w w2 → Calls Tryd.prog 55 #[m.ask.rv c cap, .int .i64 h] w2 fun e w' => e = .returned (.int .i64 (p : Int)) ∧ Below w2.heap.size w2 w') := fun w2 hb =>
    place_yes w2 c cap m.ask h p ((hA.below hb hA.lt).same rfl) hO.half hs
  have hl : p < m.cells.length := (List.getElem?_eq_some_iff.1 hx).1
  have hl2 : (p : Int) < (m.cells.length : Int) := by omega
  have HD : Hid (∀ w2, Below w.heap.size w w2 → Calls Tryd.prog 56 #[m.ask.rv c cap, .int .i64 (p : Int)] w2 fun e w' => RNew w2 (m.ask.drop p x) e w') := fun w2 hb =>
    reffree_any w2 c cap m.ask p x ((hA.below hb hA.lt).same rfl) hO.half hx
  clear hA hO hs
  unfold M.rv
  go_enter Tryd.func38, Tryd.ntmps38
  go_wp2_with fail
  have hP := pre_ask w c cap m
  generalize (w.alloc (Obj.cells #[Value.slice (some ⟨c, 0, none⟩) m.cells.length cap, Value.int IntKind.i64 (m.count + 1), Value.int IntKind.i64 m.live, Value.int IntKind.i64 m.stale] 29)).alloc (Obj.cells #[Value.slice none 0 0, Value.int IntKind.i64 0, Value.int IntKind.i64 0, Value.int IntKind.i64 0] 29) = w1 at hP ⊢
  refine (HP.out w1 hP.be).mono ?_
  rintro e w2 ⟨rfl, b2⟩
  have hP2 := hP.later b2 hP.sz
  obtain ⟨a0, a1, a2, a3, q0, q1, q2, q3, fa, fb, sz, _, _⟩ := hP2
  have HP2 := Lib.hid (hP.later b2 hP.sz)
  clear hP b2
  go_wp2_with fail
  refine (HD.out w2 HP2.out.be).mono ?_
  rintro e w3 ⟨c3, cap3, rfl, h3, b3, hc3⟩
  have hP3 := HP2.out.later b3 HP2.out.sz
  have HR3 := Lib.hid hP3.res
  have H3 := Lib.hid h3
  have hs3 := hP3.sz
  clear a0 a1 a2 a3 q0 q1 q2 q3 fa fb b3 h3
  obtain ⟨a0, a1, a2, a3, q0, q1, q2, q3, fa, fb, sz, _, _⟩ := hP3
  unfold M.rv
  have hcq : c3 ≠ w.heap.size + 1 := by omega
  go_wp2_with fail
  obtain ⟨g1, g2, g3⟩ := give HR3.out cap3 H3.out hcq
  exact bodyPost_ret (results_cell2 Tryd.results38 rfl rfl g1) rfl ⟨c3, cap3, rfl, g2, g3, .inr (by omega)⟩
end Go.Proofs.YthdcilbbllldiaaDoor
