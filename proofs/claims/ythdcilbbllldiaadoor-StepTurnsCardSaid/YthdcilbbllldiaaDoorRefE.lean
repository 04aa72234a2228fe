/- The reference's free and Free. Conditions: counts and live cells are below 2 to the 61; generations are between 0 and 16384. -/
import Derived.Test.YthdcilbbllldiaaDoorRefD
namespace Go.Proofs.YthdcilbbllldiaaDoor
open Go.RowKit Go.Op
set_option maxRecDepth 100000

theorem Res.drew {w W : World} {q : Nat} (h : Res w q W) : Res w q W.drew := ⟨fun i hi => by rw [drew_cell]; exact h.c i hi, h.be.drew, h.hq⟩
theorem RB.drew {w : World} {g : Nat} {L : List Cl} (h : RB w g L) : RB w.drew g L := ⟨h.lt, fun i x hx => by
  unfold RC
  rw [drew_cell, drew_cell, drew_cell, drew_cell, drew_cell]
  exact h.cl i x hx, fun i => by rw [((Below.refl (g + 1) w).drew).frozen (p := ⟨g, i, none⟩) (Nat.lt_succ_self _)]; exact h.fz i⟩
theorem Pre.other {w W : World} {p : Nat} {x y : Value} {n1 n2 n3 m1 m2 m3 : Int} (h : Pre w p x y n1 n2 n3 m1 m2 m3 W) {g : Nat} (hg : g ≠ p ∧ g ≠ p + 1 ∧ w.heap.size ≤ g) (i : Nat) (u : Value) : Pre w p x y n1 n2 n3 m1 m2 m3 (W.setCell ⟨g, i, none⟩ u) :=
  ⟨set_other h.a0 (.inl hg.1), set_other h.a1 (.inl hg.1), set_other h.a2 (.inl hg.1), set_other h.a3 (.inl hg.1), set_other h.b0 (.inl hg.2.1), set_other h.b1 (.inl hg.2.1), set_other h.b2 (.inl hg.2.1), set_other h.b3 (.inl hg.2.1),
    fun i => by rw [World.frozen?_setCell]; exact h.fa i, fun i => by rw [World.frozen?_setCell]; exact h.fb i, by have e : (W.setCell ⟨g, i, none⟩ u).heap.size = W.heap.size := by simp [World.setCell]
                                                                                                                   rw [e]; exact h.sz, h.be.setCell (p := ⟨g, i, none⟩) hg.2.2 u, h.hp⟩
theorem Pre.set0 {w W : World} {p : Nat} {x y : Value} {n1 n2 n3 m1 m2 m3 : Int} (h : Pre w p x y n1 n2 n3 m1 m2 m3 W) (u : Value) : Pre w p u y n1 n2 n3 m1 m2 m3 (W.setCell ⟨p, 0, none⟩ u) :=
  ⟨set_same h.a0, set_other h.a1 (by omega), set_other h.a2 (by omega), set_other h.a3 (by omega), set_other h.b0 (by omega), set_other h.b1 (by omega), set_other h.b2 (by omega), set_other h.b3 (by omega),
    fun i => by rw [World.frozen?_setCell]; exact h.fa i, fun i => by rw [World.frozen?_setCell]; exact h.fb i, by have e : (W.setCell ⟨p, 0, none⟩ u).heap.size = W.heap.size := by simp [World.setCell]
                                                                                                                   rw [e]; exact h.sz, h.be.setCell (p := ⟨p, 0, none⟩) h.hp u, h.hp⟩
theorem Pre.drew {w W : World} {p : Nat} {x y : Value} {n1 n2 n3 m1 m2 m3 : Int} (h : Pre w p x y n1 n2 n3 m1 m2 m3 W) : Pre w p x y n1 n2 n3 m1 m2 m3 W.drew :=
  h.later (B := W.heap.size) ((Below.refl _ _).drew) h.sz
/-- A whole cell is stored. -/
theorem RB.whole {w : World} {g : Nat} {L : List Cl} (h : RB w g L) {p : Nat} {x : Cl} (hx : L[p]? = some x) (y : Cl) :
    RB (((((w.setCell ⟨g, p * 5, none⟩ (.int .i64 y.held.kd)).setCell ⟨g, p * 5 + 1, none⟩ (.int .i64 y.held.num)).setCell ⟨g, p * 5 + 2, none⟩ (.int .i64 y.gen)).setCell ⟨g, p * 5 + 3, none⟩ (.int .i64 y.stamp)).setCell ⟨g, p * 5 + 4, none⟩ (.bool y.ret)) g (L.set p y) := by
  obtain ⟨k0, k1, k2, k3, k4⟩ := h.cl p x hx
  have e : ∀ (W : World) (a : Addr) (u : Value), (W.setCell a u).heap.size = W.heap.size := fun W a u => by simp [World.setCell]
  refine ⟨by rw [e, e, e, e, e]; exact h.lt, fun k z hz => ?_, fun i => by rw [World.frozen?_setCell, World.frozen?_setCell, World.frozen?_setCell, World.frozen?_setCell, World.frozen?_setCell]; exact h.fz i⟩
  rw [List.getElem?_set] at hz
  split at hz
  · rename_i ek
    subst ek
    split at hz
    · cases hz
      exact ⟨set_other (set_other (set_other (set_other (set_same k0) (by omega)) (by omega)) (by omega)) (by omega),
        set_other (set_other (set_other (set_same (set_other k1 (by omega))) (by omega)) (by omega)) (by omega),
        set_other (set_other (set_same (set_other (set_other k2 (by omega)) (by omega))) (by omega)) (by omega),
        set_other (set_same (set_other (set_other (set_other k3 (by omega)) (by omega)) (by omega))) (by omega),
        set_same (set_other (set_other (set_other (set_other k4 (by omega)) (by omega)) (by omega)) (by omega))⟩
    · cases hz
  · rename_i ek
    exact (((((h.cl k z hz).other (.inr (by omega)) _).other (.inr (by omega)) _).other (.inr (by omega)) _).other (.inr (by omega)) _).other (.inr (by omega)) _
set_option maxHeartbeats 1000000 in
theorem reffree_any (w : World) (c cap : Nat) (m : M) (p : Nat) (x : Cl) (hA : RAt w c m) (hO : m.Ok 4611686018427387904) (hx : m.cells[p]? = some x) :
    Calls Tryd.prog 56 #[m.rv c cap, .int .i64 (p : Int)] w fun e w' => RNew w (m.drop p x) e w' := by
  have hln := hO.len
  have hlv := hO.liv
  obtain ⟨hg0, hg1, _, _⟩ := hO.gen p x hx
  have hlt := hA.lt
  have hl : p < m.cells.length := (List.getElem?_eq_some_iff.1 hx).1
  have hl2 : (p : Int) < (m.cells.length : Int) := by omega
  have hA0 := fun w2 (hb : Below w.heap.size w w2) => (hA.below hb hA.lt).cl
  have HX := Lib.hid hx
  clear hA hO
  unfold M.rv
  go_enter Tryd.func56, Tryd.ntmps56
  go_wp2_with (at_builtin; refine append_cells rfl (.tmp 5) (.tmp 7) rfl rfl (by simp) c cap m.cells rfl (hA0 _ (((Below.refl _ _).alloc (Nat.le_refl _) _).alloc (by simp) _)) (by simp; omega) hln ?_; intro g cg w2 hB hge hbe; have hP := (pre_two w (.slice (some ⟨c, 0, none⟩) m.cells.length cap) (.slice none 0 0) m.count m.live m.stale 0 0 0).later hbe (by simp); have HPre := Lib.hid hP; have HRB := Lib.hid hB; have hgs : w.heap.size + 2 ≤ g := (by simpa using hge); have hgl := hB.lt; have hn1 : g ≠ w.heap.size := (by omega); have hn2 : g ≠ w.heap.size + 1 := (by omega); obtain ⟨k0, k1, k2, k3, k4⟩ := hB.cl p x hx; have fg := hB.fz; have HBe := Lib.hid hP.be; obtain ⟨a0, a1, a2, a3, q0, q1, q2, q3, fa, fb, sz, _, _⟩ := hP; clear hbe hge hB)
  go_region
  obtain ⟨w5, hw5⟩ : ∃ W, W = ((((((w2.setCell ⟨w.heap.size, 0, none⟩ (.slice (some ⟨g, 0, none⟩) m.cells.length cg)).setCell ⟨g, p * 5, none⟩ (.int .i64 0)).setCell ⟨g, p * 5 + 1, none⟩ (.int .i64 0)).setCell ⟨g, p * 5 + 2, none⟩ (.int .i64 (x.gen + 1))).setCell ⟨g, p * 5 + 3, none⟩ (.int .i64 0)).setCell ⟨g, p * 5 + 4, none⟩ (.bool false)).drew := ⟨_, rfl⟩
  rw [← hw5]
  have hx5 : RB w5 g (m.cells.set p x.freed) := by
    rw [hw5]
    exact ((HRB.out.other (p := w.heap.size) (by omega) 0 (.slice (some ⟨g, 0, none⟩) m.cells.length cg)).whole HX.out x.freed).drew
  have hp5 : Pre w w.heap.size (.slice (some ⟨g, 0, none⟩) m.cells.length cg) (.slice none 0 0) m.count m.live m.stale 0 0 0 w5 := by
    have hgg : g ≠ w.heap.size ∧ g ≠ w.heap.size + 1 ∧ w.heap.size ≤ g := by omega
    rw [hw5]
    exact ((((((HPre.out.set0 _).other hgg _ _).other hgg _ _).other hgg _ _).other hgg _ _).other hgg _ _).drew
  have HX5 := Lib.hid hx5
  have HP5 := Lib.hid hp5
  clear hw5 hx5 k0 k1 k2 k3 k4 fg a0 a1 a2 a3 q0 q1 q2 q3 fa fb
  obtain ⟨a0, a1, a2, a3, q0, q1, q2, q3, fa, fb, _, _, _⟩ := hp5
  go_wp2_with fail
  have hlen : (m.drop p x).cells.length = m.cells.length := by simp [M.drop]
  have hR5 : Res w (w.heap.size + 1) (w5.setCell ⟨w.heap.size, 2, none⟩ (.int .i64 (m.live - 1))) := HP5.out.res.set (by omega) (Nat.le_refl _)
  have hA5 : RAt (w5.setCell ⟨w.heap.size, 2, none⟩ (.int .i64 (m.live - 1))) g (m.drop p x) := (HX5.out.other (p := w.heap.size) (by omega) 2 _).at_ (m := m.drop p x)
  obtain ⟨g1, g2, g3⟩ := give hR5 cg hA5 (by omega)
  rw [hlen] at g1 g2 g3
  exact bodyPost_ret (results_cell1 Tryd.results56 rfl g1) rfl ⟨g, cg, rfl, g2, g3, by omega⟩
end Go.Proofs.YthdcilbbllldiaaDoor
