/- What stands in the three blocks that Does makes first, and that it stays; what is handed back. No condition of its own. -/
import Derived.Test.YtnhpcakdnaoekaaDoorPlayA
namespace Go.Proofs.YtnhpcakdnaoekaaDoor
open Go.RowKit Go.Op
set_option maxRecDepth 100000

structure Trio (p : Nat) (x : Value) (n1 n2 n3 : Int) (z : Ac) (W : World) : Prop where
  a0 : W.cell? ⟨p, 0, none⟩ = some x
  a1 : W.cell? ⟨p, 1, none⟩ = some (.int .i64 n1)
  a2 : W.cell? ⟨p, 2, none⟩ = some (.int .i64 n2)
  a3 : W.cell? ⟨p, 3, none⟩ = some (.int .i64 n3)
  z0 : W.cell? ⟨p + 1, 0, none⟩ = some (.int .u8 z.act)
  z1 : W.cell? ⟨p + 1, 1, none⟩ = some (.int .i64 z.pos)
  z2 : W.cell? ⟨p + 1, 2, none⟩ = some (.int .i64 z.n)
  z3 : W.cell? ⟨p + 1, 3, none⟩ = some (.int .i64 z.m)
  z4 : W.cell? ⟨p + 1, 4, none⟩ = some (.bool z.raw)
  q0 : W.cell? ⟨p + 1 + 1, 0, none⟩ = some (.slice none 0 0)
  q1 : W.cell? ⟨p + 1 + 1, 1, none⟩ = some (.int .i64 0)
  q2 : W.cell? ⟨p + 1 + 1, 2, none⟩ = some (.int .i64 0)
  q3 : W.cell? ⟨p + 1 + 1, 3, none⟩ = some (.int .i64 0)
  fq : ∀ i, W.frozen? ⟨p + 1 + 1, i, none⟩ = false
  sz : p + 1 + 1 < W.heap.size
theorem Trio.of {p : Nat} {x : Value} {n1 n2 n3 : Int} {z : Ac} {W W' : World} (h : Trio p x n1 n2 n3 z W) (hs : W.heap.size ≤ W'.heap.size) (hb : ∀ k, k = p ∨ k = p + 1 ∨ k = p + 1 + 1 → W'.heap[k]? = W.heap[k]?) : Trio p x n1 n2 n3 z W' := by
  have c : ∀ k i, k = p ∨ k = p + 1 ∨ k = p + 1 + 1 → W'.cell? ⟨k, i, none⟩ = W.cell? ⟨k, i, none⟩ := fun k i hk => World.cell?_of_block (w := W) (hb k hk)
  have f : ∀ i, W'.frozen? ⟨p + 1 + 1, i, none⟩ = W.frozen? ⟨p + 1 + 1, i, none⟩ := fun i => by
    simp only [World.frozen?, hb (p + 1 + 1) (.inr (.inr rfl))]
  have c1 := fun i => c p i (.inl rfl)
  have c2 := fun i => c (p + 1) i (.inr (.inl rfl))
  have c3 := fun i => c (p + 1 + 1) i (.inr (.inr rfl))
  exact ⟨by rw [c1]; exact h.a0, by rw [c1]; exact h.a1, by rw [c1]; exact h.a2, by rw [c1]; exact h.a3, by rw [c2]; exact h.z0, by rw [c2]; exact h.z1, by rw [c2]; exact h.z2, by rw [c2]; exact h.z3, by rw [c2]; exact h.z4, by rw [c3]; exact h.q0, by rw [c3]; exact h.q1, by rw [c3]; exact h.q2, by rw [c3]; exact h.q3, fun i => by rw [f]; exact h.fq i, Nat.lt_of_lt_of_le h.sz hs⟩
theorem Trio.below {p : Nat} {x : Value} {n1 n2 n3 : Int} {z : Ac} {W W' : World} (h : Trio p x n1 n2 n3 z W) (hb : Below W.heap.size W W') : Trio p x n1 n2 n3 z W' :=
  h.of hb.size fun k hk => hb.block k (by have := h.sz; omega)
theorem Trio.kept {p : Nat} {x : Value} {n1 n2 n3 : Int} {z : Ac} {b c r : Nat} {W W' : World} (h : Trio p x n1 n2 n3 z W) (hk : Kept b c r W W') (hb : b < p) (hc : c < p) (hr : r < p) : Trio p x n1 n2 n3 z W' :=
  h.of hk.size fun k hh => hk.block k (by have := h.sz; omega) (by omega) (by omega) (by omega)
theorem RAt.kept {w w' : World} {c : Nat} {m : M} (h : RAt w c m) {b k r : Nat} (hk : Kept b k r w w') (h1 : c ≠ b) (h2 : c ≠ k) (h3 : c ≠ r) : RAt w' c m := by
  have k1 : ∀ i, w'.cell? ⟨c, i, none⟩ = w.cell? ⟨c, i, none⟩ := fun i => hk.cell (p := ⟨c, i, none⟩) h.lt h1 h2 h3
  refine ⟨Nat.lt_of_lt_of_le h.lt hk.size, fun i x hx => ?_⟩
  unfold RC
  rw [k1, k1, k1, k1, k1]
  exact h.cl i x hx
/-- All that is true within Does. -/
structure DAt (w0 w : World) (b c r rc cap : Nat) (N : Int) (m mm : M) (z : Ac) (W : World) : Prop where
  has : Has w0 b c r N W m
  rat : RAt W rc mm
  trio : Trio w.heap.size (.slice (some ⟨rc, 0, none⟩) mm.cells.length cap) mm.count mm.live mm.stale z W
  kept : Kept b c r w W
  lb : b < w.heap.size
  lc : c < w.heap.size
  lr : r < w.heap.size
  nb : rc ≠ b
  nc : rc ≠ c
  nr : rc ≠ r
section
variable {w0 w W W' : World} {b c r rc cap : Nat} {N N' : Int} {m m' mm : M} {z : Ac}
theorem DAt.later (h : DAt w0 w b c r rc cap N m mm z W) (hb : Below W.heap.size W W') : DAt w0 w b c r rc cap N m mm z W' :=
  ⟨h.has.later hb, h.rat.below hb h.rat.lt, h.trio.below hb, h.kept.trans (Kept.of hb), h.lb, h.lc, h.lr, h.nb, h.nc, h.nr⟩
theorem DAt.step (h : DAt w0 w b c r rc cap N m mm z W) (hh : Has w0 b c r N' W' m') (hk : Kept b c r W W') : DAt w0 w b c r rc cap N' m' mm z W' :=
  ⟨hh, h.rat.kept hk h.nb h.nc h.nr, h.trio.kept hk h.lb h.lc h.lr, h.kept.trans hk, h.lb, h.lc, h.lr, h.nb, h.nc, h.nr⟩
end
/-- The world in which Does asks for the handle. -/
def first (w : World) (rc cap : Nat) (m : M) (z : Ac) : World := ((w.alloc (.cells #[.slice (some ⟨rc, 0, none⟩) m.cells.length cap, .int .i64 m.count, .int .i64 m.live, .int .i64 m.stale] 31)).alloc (.cells #[.int .u8 z.act, .int .i64 z.pos, .int .i64 z.n, .int .i64 z.m, .bool z.raw] 37)).alloc (.cells #[.slice none 0 0, .int .i64 0, .int .i64 0, .int .i64 0] 31)
theorem first_at {w0 w : World} {b c r rc : Nat} (cap : Nat) {N : Int} {m : M} (z : Ac) (hH : Has w0 b c r N w m) (hR : RAt w rc m) (h1 : rc ≠ b) (h2 : rc ≠ c) (h3 : rc ≠ r) :
    DAt w0 w b c r rc cap N m m z (first w rc cap m z) ∧ Below w.heap.size w (first w rc cap m z) := by
  have hb : Below w.heap.size w (first w rc cap m z) := (((Below.refl _ _).alloc (Nat.le_refl _) _).alloc (by simp) _).alloc (by simp; omega) _
  refine ⟨⟨hH.later hb, hR.below hb hR.lt, ?_, Kept.of hb, hH.at_.own.lb, hH.at_.own.lc, hH.at_.own.lr, h1, h2, h3⟩, hb⟩
  unfold first
  generalize hu1 : w.alloc (.cells #[.slice (some ⟨rc, 0, none⟩) m.cells.length cap, .int .i64 m.count, .int .i64 m.live, .int .i64 m.stale] 31) = u1
  have s1 : u1.heap.size = w.heap.size + 1 := by rw [← hu1]; simp
  generalize hu2 : u1.alloc (.cells #[.int .u8 z.act, .int .i64 z.pos, .int .i64 z.n, .int .i64 z.m, .bool z.raw] 37) = u2
  have s2 : u2.heap.size = w.heap.size + 1 + 1 := by rw [← hu2]; simp [s1]
  have b2 : Below u1.heap.size u1 u2 := by rw [← hu2]; exact (Below.refl _ _).alloc (Nat.le_refl _) _
  have b3 := (Below.refl u2.heap.size u2).alloc (Nat.le_refl _) (.cells #[.slice none 0 0, .int .i64 0, .int .i64 0, .int .i64 0] 31)
  generalize hu3 : u2.alloc (.cells #[.slice none 0 0, .int .i64 0, .int .i64 0, .int .i64 0] 31) = u3 at b3
  have c1 : ∀ i v, (#[Value.slice (some ⟨rc, 0, none⟩) m.cells.length cap, .int .i64 m.count, .int .i64 m.live, .int .i64 m.stale] : Array Value)[i]? = some v → u3.cell? ⟨w.heap.size, i, none⟩ = some v := fun i v hv => by
    rw [b3.cell (p := ⟨w.heap.size, i, none⟩) (by show w.heap.size < _; omega), b2.cell (p := ⟨w.heap.size, i, none⟩) (by show w.heap.size < _; omega), ← hu1]
    exact alloc_cell _ _ _ _ _ hv
  have c2 : ∀ i v, (#[Value.int .u8 z.act, .int .i64 z.pos, .int .i64 z.n, .int .i64 z.m, .bool z.raw] : Array Value)[i]? = some v → u3.cell? ⟨w.heap.size + 1, i, none⟩ = some v := fun i v hv => by
    rw [b3.cell (p := ⟨w.heap.size + 1, i, none⟩) (by show w.heap.size + 1 < _; omega), ← s1, ← hu2]
    exact alloc_cell _ _ _ _ _ hv
  have c3 : ∀ i v, (#[Value.slice none 0 0, .int .i64 0, .int .i64 0, .int .i64 0] : Array Value)[i]? = some v → u3.cell? ⟨w.heap.size + 1 + 1, i, none⟩ = some v := fun i v hv => by
    rw [← s2, ← hu3]
    exact alloc_cell _ _ _ _ _ hv
  exact ⟨c1 0 _ rfl, c1 1 _ rfl, c1 2 _ rfl, c1 3 _ rfl, c2 0 _ rfl, c2 1 _ rfl, c2 2 _ rfl, c2 3 _ rfl, c2 4 _ rfl, c3 0 _ rfl, c3 1 _ rfl, c3 2 _ rfl, c3 3 _ rfl, fun i => by rw [← hu3]; exact World.frozen?_alloc_at _ 31 _ i s2.symm, by rw [← hu3]; simp [s2]⟩

/-- What Does answers: both answered alike, and both memories are as one and the same says. -/
def Done (w0 w : World) (b c r rc : Nat) (N : Int) (e : Ending) (w' : World) : Prop := ∃ (m' : M) (c' cap' : Nat) (to : Int), e = .returned (.tuple #[m'.rv c' cap', .bool true, .int .i64 to]) ∧ Has w0 b c r N w' m' ∧ RAt w' c' m' ∧ Kept b c r w w' ∧ c' ≠ b ∧ c' ≠ c ∧ c' ≠ r ∧ (c' = rc ∨ w.heap.size ≤ c')
theorem Kept.four {b c r : Nat} {w W : World} (h : Kept b c r w W) {q : Nat} (hq : w.heap.size ≤ q) (x : Value) (n1 n2 n3 : Int) : Kept b c r w (four W q x n1 n2 n3) := by
  have e : ∀ (W : World) (a : Addr) (u : Value), (W.setCell a u).heap.size = W.heap.size := fun W a u => by simp [World.setCell]
  have p : ∀ {W : World} (i : Nat) (u : Value), Kept b c r w W → Kept b c r w (W.setCell ⟨q, i, none⟩ u) := fun i u h =>
    ⟨h.os, h.tape, h.output, by rw [e]; exact h.size, fun k hk hb hc hr => (Below.heap_setCell _ ⟨q, i, none⟩ u k (by show k ≠ q; omega)).trans (h.block k hk hb hc hr)⟩
  exact p 3 _ (p 2 _ (p 1 _ (p 0 _ h)))
theorem Has.four {w0 W : World} {b c r : Nat} {N : Int} {m : M} (h : Has w0 b c r N W m) {q : Nat} (hq : w0.heap.size ≤ q ∧ q ≠ b ∧ q ≠ c ∧ q ≠ r) (x : Value) (n1 n2 n3 : Int) : Has w0 b c r N (four W q x n1 n2 n3) m := by
  have p : ∀ {W : World} (i : Nat) (u : Value), Has w0 b c r N W m → Has w0 b c r N (W.setCell ⟨q, i, none⟩ u) m := fun i u h =>
    ⟨⟨h.at_.own.set _ _, h.at_.head.other hq.2.1 _ _, h.at_.cl.other hq.2.2.1 _ _, h.at_.rw.other hq.2.2.2 _ _⟩, h.ok, h.below.setCell (p := ⟨q, i, none⟩) hq.1 u, h.hb, h.hc, h.hr⟩
  exact p 3 _ (p 2 _ (p 1 _ (p 0 _ h)))
theorem four_range {X : World} {q : Nat} (h : ∀ i, i < 4 → ∃ v, X.cell? ⟨q, i, none⟩ = some v) (x : Value) (n1 n2 n3 : Int) :
    World.rangeAt (four X q x n1 n2 n3) q 0 [x, .int .i64 n1, .int .i64 n2, .int .i64 n3] := by
  obtain ⟨v0, h0⟩ := h 0 (by decide)
  obtain ⟨v1, h1⟩ := h 1 (by decide)
  obtain ⟨v2, h2⟩ := h 2 (by decide)
  obtain ⟨v3, h3⟩ := h 3 (by decide)
  unfold four
  intro j v hj
  rw [Nat.zero_add]
  match j, hj with
  | 0, hj => cases hj; exact set_other (set_other (set_other (set_same h0) (by omega)) (by omega)) (by omega)
  | 1, hj => cases hj; exact set_other (set_other (set_same (set_other h1 (by omega))) (by omega)) (by omega)
  | 2, hj => cases hj; exact set_other (set_same (set_other (set_other h2 (by omega)) (by omega))) (by omega)
  | 3, hj => cases hj; exact set_same (set_other (set_other (set_other h3 (by omega)) (by omega)) (by omega))
/-- The end of Does: w4 is the world behind the reference's call, X the one in which the answer is told. -/
theorem done {w0 w w4 X : World} {b c r rc cap : Nat} {N : Int} {m4 mm : M} {z : Ac} (hD : DAt w0 w b c r rc cap N m4 mm z w4) {c4 : Nat} (cap4 : Nat) (hR : RAt w4 c4 m4) (hX : Below w4.heap.size (four w4 (w.heap.size + 1 + 1) (.slice (some ⟨c4, 0, none⟩) m4.cells.length cap4) m4.count m4.live m4.stale) X) (hc : c4 = rc ∨ w.heap.size + 1 + 1 < c4) (hrc : rc < w.heap.size) :
    (loadVar 31 ⟨w.heap.size + 1 + 1, 0, none⟩).run Tryd.prog X = .ok (m4.rv c4 cap4) X ∧ Has w0 b c r N X m4 ∧ RAt X c4 m4 ∧ Kept b c r w X ∧ c4 ≠ b ∧ c4 ≠ c ∧ c4 ≠ r ∧ (c4 = rc ∨ w.heap.size ≤ c4) := by
  have hs := hD.has.below.size
  have hb := hD.has.hb
  have lb := hD.lb
  have lc := hD.lc
  have lr := hD.lr
  have nb := hD.nb
  have nc := hD.nc
  have nr := hD.nr
  have e : ∀ (W : World) (a : Addr) (u : Value), (W.setCell a u).heap.size = W.heap.size := fun W a u => by simp [World.setCell]
  have hsz : (four w4 (w.heap.size + 1 + 1) (.slice (some ⟨c4, 0, none⟩) m4.cells.length cap4) m4.count m4.live m4.stale).heap.size = w4.heap.size := by unfold four; rw [e, e, e, e]
  have hX2 : Below (four w4 (w.heap.size + 1 + 1) (.slice (some ⟨c4, 0, none⟩) m4.cells.length cap4) m4.count m4.live m4.stale).heap.size (four w4 (w.heap.size + 1 + 1) (.slice (some ⟨c4, 0, none⟩) m4.cells.length cap4) m4.count m4.live m4.stale) X := by rw [hsz]; exact hX
  obtain ⟨_, _, _, _, _, _, _, _, _, q0, q1, q2, q3, _, sz⟩ := hD.trio
  have hr := four_range (X := w4) (q := w.heap.size + 1 + 1) (fun i hi => (by
    match i, hi with
    | 0, _ => exact ⟨_, q0⟩
    | 1, _ => exact ⟨_, q1⟩
    | 2, _ => exact ⟨_, q2⟩
    | 3, _ => exact ⟨_, q3⟩)) (.slice (some ⟨c4, 0, none⟩) m4.cells.length cap4) m4.count m4.live m4.stale
  refine ⟨run_loadVar_mid _ _ 0 31 _ _ (fun j v hj => ?_) Tryd.underlying31 rfl size31, (hD.has.four (by omega) _ _ _ _).later hX2, (hR.four (by omega) _ _ _ _).below hX (hR.lt), (hD.kept.four (by omega) _ _ _ _).trans (Kept.of hX2), by omega, by omega, by omega, by omega⟩
  rw [hX.cell (p := ⟨w.heap.size + 1 + 1, 0 + j, none⟩) sz]
  exact hr j v hj
end Go.Proofs.YtnhpcakdnaoekaaDoor
