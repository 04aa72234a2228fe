/- The reference's Look and New. Conditions: counts and live cells are below 2 to the 61; generations are between 0 and 16384. -/
import Derived.Test.YthdcilbbllldiaaDoorRefA
import Derived.Deep.MidRow
namespace Go.Proofs.YthdcilbbllldiaaDoor
open Go.RowKit Go.Op
set_option maxRecDepth 100000

/-- What stands in the two blocks that a call of the reference makes first: its own memory, and the one that it hands back. -/
structure Pre (w : World) (p : Nat) (x y : Value) (n1 n2 n3 m1 m2 m3 : Int) (W : World) : Prop where
  a0 : W.cell? ⟨p, 0, none⟩ = some x
  a1 : W.cell? ⟨p, 1, none⟩ = some (.int .i64 n1)
  a2 : W.cell? ⟨p, 2, none⟩ = some (.int .i64 n2)
  a3 : W.cell? ⟨p, 3, none⟩ = some (.int .i64 n3)
  b0 : W.cell? ⟨p + 1, 0, none⟩ = some y
  b1 : W.cell? ⟨p + 1, 1, none⟩ = some (.int .i64 m1)
  b2 : W.cell? ⟨p + 1, 2, none⟩ = some (.int .i64 m2)
  b3 : W.cell? ⟨p + 1, 3, none⟩ = some (.int .i64 m3)
  fa : ∀ i, W.frozen? ⟨p, i, none⟩ = false
  fb : ∀ i, W.frozen? ⟨p + 1, i, none⟩ = false
  sz : p + 2 ≤ W.heap.size
  be : Below w.heap.size w W
  hp : w.heap.size ≤ p
theorem pre_two (w : World) (x y : Value) (n1 n2 n3 m1 m2 m3 : Int) : Pre w w.heap.size x y n1 n2 n3 m1 m2 m3 ((w.alloc (.cells #[x, .int .i64 n1, .int .i64 n2, .int .i64 n3] 29)).alloc (.cells #[y, .int .i64 m1, .int .i64 m2, .int .i64 m3] 29)) := by
  have hb := (Below.refl (w.heap.size + 1) (w.alloc (.cells #[x, .int .i64 n1, .int .i64 n2, .int .i64 n3] 29))).alloc (by simp) (.cells #[y, .int .i64 m1, .int .i64 m2, .int .i64 m3] 29)
  have hs : (w.alloc (.cells #[x, .int .i64 n1, .int .i64 n2, .int .i64 n3] 29)).heap.size = w.heap.size + 1 := by simp
  have ca : ∀ i v, (#[x, .int .i64 n1, .int .i64 n2, .int .i64 n3] : Array Value)[i]? = some v → ((w.alloc (.cells #[x, .int .i64 n1, .int .i64 n2, .int .i64 n3] 29)).alloc (.cells #[y, .int .i64 m1, .int .i64 m2, .int .i64 m3] 29)).cell? ⟨w.heap.size, i, none⟩ = some v := fun i v hv => by
    rw [hb.cell (p := ⟨w.heap.size, i, none⟩) (Nat.lt_succ_self _)]
    exact alloc_cell _ _ _ _ _ hv
  have cb : ∀ i v, (#[y, .int .i64 m1, .int .i64 m2, .int .i64 m3] : Array Value)[i]? = some v → ((w.alloc (.cells #[x, .int .i64 n1, .int .i64 n2, .int .i64 n3] 29)).alloc (.cells #[y, .int .i64 m1, .int .i64 m2, .int .i64 m3] 29)).cell? ⟨w.heap.size + 1, i, none⟩ = some v := fun i v hv => by
    rw [← hs]
    exact alloc_cell _ _ _ _ _ hv
  refine ⟨ca 0 _ rfl, ca 1 _ rfl, ca 2 _ rfl, ca 3 _ rfl, cb 0 _ rfl, cb 1 _ rfl, cb 2 _ rfl, cb 3 _ rfl, fun i => ?_, fun i => ?_, by simp, ?_, Nat.le_refl _⟩
  · rw [hb.frozen (p := ⟨w.heap.size, i, none⟩) (Nat.lt_succ_self _)]
    exact World.frozen?_alloc_at _ 29 _ i rfl
  · exact World.frozen?_alloc_at _ 29 _ i hs.symm
  · exact ((Below.refl _ _).alloc (Nat.le_refl _) _).alloc (by simp) _
theorem Pre.later {w W W' : World} {p : Nat} {x y : Value} {n1 n2 n3 m1 m2 m3 : Int} (h : Pre w p x y n1 n2 n3 m1 m2 m3 W) {B : Nat} (hb : Below B W W') (hB : p + 2 ≤ B) : Pre w p x y n1 n2 n3 m1 m2 m3 W' := by
  have k1 : ∀ i, W'.cell? ⟨p, i, none⟩ = W.cell? ⟨p, i, none⟩ := fun i => hb.cell (p := ⟨p, i, none⟩) (show p < B by omega)
  have k2 : ∀ i, W'.cell? ⟨p + 1, i, none⟩ = W.cell? ⟨p + 1, i, none⟩ := fun i => hb.cell (p := ⟨p + 1, i, none⟩) (show p + 1 < B by omega)
  refine ⟨by rw [k1]; exact h.a0, by rw [k1]; exact h.a1, by rw [k1]; exact h.a2, by rw [k1]; exact h.a3, by rw [k2]; exact h.b0, by rw [k2]; exact h.b1, by rw [k2]; exact h.b2, by rw [k2]; exact h.b3, fun i => ?_, fun i => ?_, Nat.le_trans h.sz hb.size, h.be.trans (hb.mono (by have := h.hp; omega)), h.hp⟩
  · rw [hb.frozen (p := ⟨p, i, none⟩) (show p < B by omega)]; exact h.fa i
  · rw [hb.frozen (p := ⟨p + 1, i, none⟩) (show p + 1 < B by omega)]; exact h.fb i

/-- The block that is handed back. -/
structure Res (w : World) (q : Nat) (W : World) : Prop where
  c : ∀ i, i < 4 → ∃ v, W.cell? ⟨q, i, none⟩ = some v
  be : Below w.heap.size w W
  hq : w.heap.size ≤ q
theorem Res.set {w W : World} {q : Nat} (h : Res w q W) {p i : Nat} {u : Value} (hp : p ≠ q) (hw : w.heap.size ≤ p) : Res w q (W.setCell ⟨p, i, none⟩ u) :=
  ⟨fun j hj => by obtain ⟨v, hv⟩ := h.c j hj; exact ⟨v, set_other hv (.inl hp)⟩, h.be.setCell (p := ⟨p, i, none⟩) hw u, h.hq⟩
theorem Pre.res {w W : World} {p : Nat} {x y : Value} {n1 n2 n3 m1 m2 m3 : Int} (h : Pre w p x y n1 n2 n3 m1 m2 m3 W) : Res w (p + 1) W :=
  ⟨fun i hi => by
    match i, hi with
    | 0, _ => exact ⟨_, h.b0⟩
    | 1, _ => exact ⟨_, h.b1⟩
    | 2, _ => exact ⟨_, h.b2⟩
    | 3, _ => exact ⟨_, h.b3⟩, h.be, by have := h.hp; omega⟩
theorem RAt.set {w : World} {c : Nat} {m : M} (h : RAt w c m) {p : Nat} (hp : p ≠ c) (i : Nat) (u : Value) : RAt (w.setCell ⟨p, i, none⟩ u) c m :=
  ⟨by have e : (w.setCell ⟨p, i, none⟩ u).heap.size = w.heap.size := by simp [World.setCell]
      rw [e]; exact h.lt, fun k x hx => by
    obtain ⟨h0, h1, h2, h3, h4⟩ := h.cl k x hx
    exact ⟨set_other h0 (.inl hp), set_other h1 (.inl hp), set_other h2 (.inl hp), set_other h3 (.inl hp), set_other h4 (.inl hp)⟩⟩
theorem size31 : (Tryd.prog.info? 29).map (·.size) = some 4 := by kernel_rfl
theorem give_range {w X : World} {q : Nat} (h : Res w q X) (c cap : Nat) (m : M) :
    World.rangeAt ((((X.setCell ⟨q, 0, none⟩ (.slice (some ⟨c, 0, none⟩) m.cells.length cap)).setCell ⟨q, 1, none⟩ (.int .i64 m.count)).setCell ⟨q, 2, none⟩ (.int .i64 m.live)).setCell ⟨q, 3, none⟩ (.int .i64 m.stale)) q 0 [.slice (some ⟨c, 0, none⟩) m.cells.length cap, .int .i64 m.count, .int .i64 m.live, .int .i64 m.stale] := by
  obtain ⟨v0, h0⟩ := h.c 0 (by decide)
  obtain ⟨v1, h1⟩ := h.c 1 (by decide)
  obtain ⟨v2, h2⟩ := h.c 2 (by decide)
  obtain ⟨v3, h3⟩ := h.c 3 (by decide)
  intro j v hj
  rw [Nat.zero_add]
  match j, hj with
  | 0, hj => cases hj; exact set_other (set_other (set_other (set_same h0) (by omega)) (by omega)) (by omega)
  | 1, hj => cases hj; exact set_other (set_other (set_same (set_other h1 (by omega))) (by omega)) (by omega)
  | 2, hj => cases hj; exact set_other (set_same (set_other (set_other h2 (by omega)) (by omega))) (by omega)
  | 3, hj => cases hj; exact set_same (set_other (set_other (set_other h3 (by omega)) (by omega)) (by omega))
theorem give {w X : World} {q : Nat} (h : Res w q X) {c : Nat} (cap : Nat) {m : M} (hA : RAt X c m) (hc : c ≠ q) :
    (loadVar 29 ⟨q, 0, none⟩).run Tryd.prog ((((X.setCell ⟨q, 0, none⟩ (.slice (some ⟨c, 0, none⟩) m.cells.length cap)).setCell ⟨q, 1, none⟩ (.int .i64 m.count)).setCell ⟨q, 2, none⟩ (.int .i64 m.live)).setCell ⟨q, 3, none⟩ (.int .i64 m.stale)) = .ok (m.rv c cap) ((((X.setCell ⟨q, 0, none⟩ (.slice (some ⟨c, 0, none⟩) m.cells.length cap)).setCell ⟨q, 1, none⟩ (.int .i64 m.count)).setCell ⟨q, 2, none⟩ (.int .i64 m.live)).setCell ⟨q, 3, none⟩ (.int .i64 m.stale)) ∧ RAt ((((X.setCell ⟨q, 0, none⟩ (.slice (some ⟨c, 0, none⟩) m.cells.length cap)).setCell ⟨q, 1, none⟩ (.int .i64 m.count)).setCell ⟨q, 2, none⟩ (.int .i64 m.live)).setCell ⟨q, 3, none⟩ (.int .i64 m.stale)) c m ∧ Below w.heap.size w ((((X.setCell ⟨q, 0, none⟩ (.slice (some ⟨c, 0, none⟩) m.cells.length cap)).setCell ⟨q, 1, none⟩ (.int .i64 m.count)).setCell ⟨q, 2, none⟩ (.int .i64 m.live)).setCell ⟨q, 3, none⟩ (.int .i64 m.stale)) :=
  ⟨run_loadVar_mid _ q 0 29 _ _ (give_range h c cap m) Tryd.underlying29 rfl size31, (((hA.set hc.symm 0 _).set hc.symm 1 _).set hc.symm 2 _).set hc.symm 3 _, (((h.be.setCell (p := ⟨q, 0, none⟩) h.hq _).setCell (p := ⟨q, 1, none⟩) h.hq _).setCell (p := ⟨q, 2, none⟩) h.hq _).setCell (p := ⟨q, 3, none⟩) h.hq _⟩
theorem drew_cell (W : World) (p : Addr) : W.drew.cell? p = W.cell? p := ((Below.refl (p.block + 1) W).drew).cell (Nat.lt_succ_self _)
theorem RAt.drew {w : World} {c : Nat} {m : M} (h : RAt w c m) : RAt w.drew c m := ⟨h.lt, fun i x hx => by
  unfold RC
  rw [drew_cell, drew_cell, drew_cell, drew_cell, drew_cell]
  exact h.cl i x hx⟩
theorem give_drew {w X : World} {q : Nat} (h : Res w q X) {c : Nat} (cap : Nat) {m : M} (hA : RAt X c m) (hc : c ≠ q) :
    (loadVar 29 ⟨q, 0, none⟩).run Tryd.prog ((((X.setCell ⟨q, 0, none⟩ (.slice (some ⟨c, 0, none⟩) m.cells.length cap)).setCell ⟨q, 1, none⟩ (.int .i64 m.count)).setCell ⟨q, 2, none⟩ (.int .i64 m.live)).setCell ⟨q, 3, none⟩ (.int .i64 m.stale)).drew = .ok (m.rv c cap) ((((X.setCell ⟨q, 0, none⟩ (.slice (some ⟨c, 0, none⟩) m.cells.length cap)).setCell ⟨q, 1, none⟩ (.int .i64 m.count)).setCell ⟨q, 2, none⟩ (.int .i64 m.live)).setCell ⟨q, 3, none⟩ (.int .i64 m.stale)).drew ∧ RAt ((((X.setCell ⟨q, 0, none⟩ (.slice (some ⟨c, 0, none⟩) m.cells.length cap)).setCell ⟨q, 1, none⟩ (.int .i64 m.count)).setCell ⟨q, 2, none⟩ (.int .i64 m.live)).setCell ⟨q, 3, none⟩ (.int .i64 m.stale)).drew c m ∧ Below w.heap.size w ((((X.setCell ⟨q, 0, none⟩ (.slice (some ⟨c, 0, none⟩) m.cells.length cap)).setCell ⟨q, 1, none⟩ (.int .i64 m.count)).setCell ⟨q, 2, none⟩ (.int .i64 m.live)).setCell ⟨q, 3, none⟩ (.int .i64 m.stale)).drew :=
  ⟨run_loadVar_mid _ q 0 29 _ _ (fun j v hj => by rw [drew_cell]; exact give_range h c cap m j v hj) Tryd.underlying29 rfl size31, ((((hA.set hc.symm 0 _).set hc.symm 1 _).set hc.symm 2 _).set hc.symm 3 _).drew, ((((h.be.setCell (p := ⟨q, 0, none⟩) h.hq _).setCell (p := ⟨q, 1, none⟩) h.hq _).setCell (p := ⟨q, 2, none⟩) h.hq _).setCell (p := ⟨q, 3, none⟩) h.hq _).drew⟩

theorem look_no (w : World) (c cap : Nat) (m : M) (h k : Int) (hA : RAt w c m) (hO : m.Ok 2305843009213693952) (hs : m.seek h = none) :
    Calls Tryd.prog 35 #[m.rv c cap, .int .i64 h, .int .i64 k] w fun e w' => RRet w c m.miss [.int .i64 0, .int .i64 5] e w' := by
  have hc := hO.cnt
  have hst := hO.stl
  have hlt := hA.lt
  have HP : Hid (∀ w2, Below w.heap.size w w2 → Calls Tryd.prog 55 #[m.ask.rv c cap, .int .i64 h] w2 fun e w' => e = .returned (.int .i64 (-1)) ∧ Below w2.heap.size w2 w') := fun w2 hb =>
    place_no w2 c cap m.ask h ((hA.below hb hA.lt).same rfl) (hO.ask.mono (by decide)) hs
  have HE : Hid (∀ w2, Below w.heap.size w w2 → RAt w2 c m.miss) := fun w2 hb => (hA.below hb hA.lt).same rfl
  clear hA hO hs
  unfold M.rv
  go_enter Tryd.func35, Tryd.ntmps35
  go_wp2_with fail
  have hP := pre_two w (.slice (some ⟨c, 0, none⟩) m.cells.length cap) (.slice none 0 0) (m.count + 1) m.live m.stale 0 0 0
  generalize (w.alloc (Obj.cells #[Value.slice (some ⟨c, 0, none⟩) m.cells.length cap, Value.int IntKind.i64 (m.count + 1), Value.int IntKind.i64 m.live, Value.int IntKind.i64 m.stale] 29)).alloc (Obj.cells #[Value.slice none 0 0, Value.int IntKind.i64 0, Value.int IntKind.i64 0, Value.int IntKind.i64 0] 29) = w1 at hP ⊢
  refine (HP.out w1 hP.be).mono ?_
  rintro e w2 ⟨rfl, b2⟩
  have hP2 := hP.later b2 hP.sz
  have HR := Lib.hid hP2.res
  have HX := Lib.hid (HE.out w2 hP2.be)
  obtain ⟨a0, a1, a2, a3, q0, q1, q2, q3, fa, fb, sz, _, _⟩ := hP2
  clear hP b2
  go_wp2_with fail
  obtain ⟨g1, g2, g3⟩ := give (HR.out.set (p := w.heap.size) (i := 3) (u := .int .i64 (m.stale + 1)) (by omega) (Nat.le_refl _)) cap (HX.out.set (p := w.heap.size) (by omega) 3 (.int .i64 (m.stale + 1))) (by omega)
  exact bodyPost_ret (results_cell3 Tryd.results35 rfl rfl rfl g1) rfl ⟨c, cap, rfl, g2, g3, .inl rfl⟩
end Go.Proofs.YthdcilbbllldiaaDoor
