/- The reference's Look of a handle that isn't stale. Conditions: counts and live cells are below 2 to the 61; generations are between 0 and 16384. -/
import Derived.Test.YthdcilbbllldiaaDoorRefB
namespace Go.Proofs.YthdcilbbllldiaaDoor
open Go.RowKit Go.Op
set_option maxRecDepth 100000

theorem look_other (w : World) (c cap : Nat) (m : M) (h k : Int) (p : Nat) (x : Cl) (hA : RAt w c m) (hO : m.Ok 2305843009213693952) (hs : m.seek h = some p) (hx : m.cells[p]? = some x) (hk : ¬ x.held.kd = k) :
    Calls Tryd.prog 35 #[m.rv c cap, .int .i64 h, .int .i64 k] w fun e w' => RRet w c m.ask [.int .i64 0, .int .i64 6] e w' := by
  have hc := hO.cnt
  have hst := hO.stl
  have hln := hO.len
  have hlt := hA.lt
  have HP : Hid (∀ w2, Below w.heap.size w w2 → Calls Tryd.prog 55 #[m.ask.rv c cap, .int .i64 h] w2 fun e w' => e = .returned (.int .i64 (p : Int)) ∧ Below w2.heap.size w2 w') := fun w2 hb =>
    place_yes w2 c cap m.ask h p ((hA.below hb hA.lt).same rfl) (hO.ask.mono (by decide)) hs
  have HE : Hid (∀ w2, Below w.heap.size w w2 → RAt w2 c m.ask) := fun w2 hb => (hA.below hb hA.lt).same rfl
  have hl : p < m.cells.length := (List.getElem?_eq_some_iff.1 hx).1
  have hl2 : (p : Int) < (m.cells.length : Int) := by omega
  have HX : Hid (∀ w2, Below w.heap.size w w2 → RC w2 c (p * 5) x) := fun w2 hb => (hA.below hb hA.lt).cl p x hx
  have hk2 : (x.held.kd != k) = true := by simpa using hk
  clear hA hO hs hx hk
  unfold M.rv
  go_enter Tryd.func35, Tryd.ntmps35
  go_wp2_with fail
  have hP := pre_two w (.slice (some ⟨c, 0, none⟩) m.cells.length cap) (.slice none 0 0) (m.count + 1) m.live m.stale 0 0 0
  generalize (w.alloc (Obj.cells #[Value.slice (some ⟨c, 0, none⟩) m.cells.length cap, Value.int IntKind.i64 (m.count + 1), Value.int IntKind.i64 m.live, Value.int IntKind.i64 m.stale] 29)).alloc (Obj.cells #[Value.slice none 0 0, Value.int IntKind.i64 0, Value.int IntKind.i64 0, Value.int IntKind.i64 0] 29) = w1 at hP ⊢
  refine (HP.out w1 hP.be).mono ?_
  rintro e w2 ⟨rfl, b2⟩
  have hP2 := hP.later b2 hP.sz
  have HR := Lib.hid hP2.res
  have HY := Lib.hid (HE.out w2 hP2.be)
  obtain ⟨k0, _, _, _, _⟩ := HX.out w2 hP2.be
  obtain ⟨a0, a1, a2, a3, q0, q1, q2, q3, fa, fb, sz, _, _⟩ := hP2
  clear hP b2
  go_wp2_with fail
  obtain ⟨g1, g2, g3⟩ := give HR.out cap HY.out (by omega)
  exact bodyPost_ret (results_cell3 Tryd.results35 rfl rfl rfl g1) rfl ⟨c, cap, rfl, g2, g3, .inl rfl⟩
theorem look_this (w : World) (c cap : Nat) (m : M) (h : Int) (p : Nat) (x : Cl) (hA : RAt w c m) (hO : m.Ok 2305843009213693952) (hs : m.seek h = some p) (hx : m.cells[p]? = some x) :
    Calls Tryd.prog 35 #[m.rv c cap, .int .i64 h, .int .i64 x.held.kd] w fun e w' => RRet w c m.ask [.int .i64 x.held.num, .int .i64 0] e w' := by
  have hc := hO.cnt
  have hst := hO.stl
  have hln := hO.len
  have hlt := hA.lt
  have HP : Hid (∀ w2, Below w.heap.size w w2 → Calls Tryd.prog 55 #[m.ask.rv c cap, .int .i64 h] w2 fun e w' => e = .returned (.int .i64 (p : Int)) ∧ Below w2.heap.size w2 w') := fun w2 hb =>
    place_yes w2 c cap m.ask h p ((hA.below hb hA.lt).same rfl) (hO.ask.mono (by decide)) hs
  have HE : Hid (∀ w2, Below w.heap.size w w2 → RAt w2 c m.ask) := fun w2 hb => (hA.below hb hA.lt).same rfl
  have hl : p < m.cells.length := (List.getElem?_eq_some_iff.1 hx).1
  have hl2 : (p : Int) < (m.cells.length : Int) := by omega
  have HX : Hid (∀ w2, Below w.heap.size w w2 → RC w2 c (p * 5) x) := fun w2 hb => (hA.below hb hA.lt).cl p x hx
  clear hA hO hs hx
  unfold M.rv
  go_enter Tryd.func35, Tryd.ntmps35
  go_wp2_with fail
  have hP := pre_two w (.slice (some ⟨c, 0, none⟩) m.cells.length cap) (.slice none 0 0) (m.count + 1) m.live m.stale 0 0 0
  generalize (w.alloc (Obj.cells #[Value.slice (some ⟨c, 0, none⟩) m.cells.length cap, Value.int IntKind.i64 (m.count + 1), Value.int IntKind.i64 m.live, Value.int IntKind.i64 m.stale] 29)).alloc (Obj.cells #[Value.slice none 0 0, Value.int IntKind.i64 0, Value.int IntKind.i64 0, Value.int IntKind.i64 0] 29) = w1 at hP ⊢
  refine (HP.out w1 hP.be).mono ?_
  rintro e w2 ⟨rfl, b2⟩
  have hP2 := hP.later b2 hP.sz
  have HR := Lib.hid hP2.res
  have HY := Lib.hid (HE.out w2 hP2.be)
  obtain ⟨k0, k1, _, _, _⟩ := HX.out w2 hP2.be
  obtain ⟨a0, a1, a2, a3, q0, q1, q2, q3, fa, fb, sz, _, _⟩ := hP2
  clear hP b2
  go_wp2_with fail
  go_region
  go_wp2_with fail
  obtain ⟨g1, g2, g3⟩ := give_drew HR.out cap HY.out (by omega)
  exact bodyPost_ret (results_cell3 Tryd.results35 rfl rfl rfl g1) rfl ⟨c, cap, rfl, g2, g3, .inl rfl⟩
end Go.Proofs.YthdcilbbllldiaaDoor
