/- What the reference's One makes of the document's memory: the ask of an entry, whatever its kind. Conditions: counts and live cells are below 2 to the 61; generations are between 0 and 16384. -/
import Derived.Test.YthdcilbbllldiaaDoorStJ
namespace Go.Proofs.YthdcilbbllldiaaDoor
open Go.RowKit Go.Op
set_option maxRecDepth 100000

theorem results_cell4 {fn : Func} {ts : Array Value} {w : World} {a b c d : Tmp} {t : TypeId} {p : Addr} {v x y u : Value} (h : fn.results = #[.cell a t, .tmp b, .tmp c, .tmp d]) (ha : ts.getD a undef = .pointer (some p)) (hb : ts.getD b undef = x) (hc : ts.getD c undef = y) (hd : ts.getD d undef = u) (hl : (loadVar t p).run Tryd.prog w = .ok v w) : (results fn ts).run Tryd.prog w = .ok (.tuple #[v, x, y, u]) w := by
  unfold results
  rw [h]
  simp [asAddr, ha, hb, hc, hd, hl, -Array.getD_eq_getD_getElem?]
/-- The call's own three variables: memory, the entry, the memory that is handed back. -/
structure B3 (P : Nat) (x : Value) (n1 n2 n3 : Int) (z : Aq) (W : World) : Prop where
  a0 : W.cell? ⟨P, 0, none⟩ = some x
  a1 : W.cell? ⟨P, 1, none⟩ = some (.int .i64 n1)
  a2 : W.cell? ⟨P, 2, none⟩ = some (.int .i64 n2)
  a3 : W.cell? ⟨P, 3, none⟩ = some (.int .i64 n3)
  z0 : W.cell? ⟨P + 1, 0, none⟩ = some (.int .u8 z.act)
  z1 : W.cell? ⟨P + 1, 1, none⟩ = some (.int .i64 z.pos)
  z2 : W.cell? ⟨P + 1, 2, none⟩ = some (.int .i64 z.n)
  z3 : W.cell? ⟨P + 1, 3, none⟩ = some (.int .i64 z.m)
  z4 : W.cell? ⟨P + 1, 4, none⟩ = some (.bool z.told)
  q0 : W.cell? ⟨P + 1 + 1, 0, none⟩ = some (.slice none 0 0)
  q1 : W.cell? ⟨P + 1 + 1, 1, none⟩ = some (.int .i64 0)
  q2 : W.cell? ⟨P + 1 + 1, 2, none⟩ = some (.int .i64 0)
  q3 : W.cell? ⟨P + 1 + 1, 3, none⟩ = some (.int .i64 0)
  fa : ∀ i, W.frozen? ⟨P, i, none⟩ = false
  fq : ∀ i, W.frozen? ⟨P + 1 + 1, i, none⟩ = false
  sz : P + 1 + 1 < W.heap.size
theorem B3.below {P : Nat} {x : Value} {n1 n2 n3 : Int} {z : Aq} {W W' : World} (h : B3 P x n1 n2 n3 z W) (hb : Below W.heap.size W W') : B3 P x n1 n2 n3 z W' := by
  have s := h.sz
  have c : ∀ k i, k ≤ P + 1 + 1 → W'.cell? ⟨k, i, none⟩ = W.cell? ⟨k, i, none⟩ := fun k i hk => hb.cell (p := ⟨k, i, none⟩) (show k < W.heap.size by omega)
  refine ⟨by rw [c _ _ (by omega)]; exact h.a0, by rw [c _ _ (by omega)]; exact h.a1, by rw [c _ _ (by omega)]; exact h.a2, by rw [c _ _ (by omega)]; exact h.a3, by rw [c _ _ (by omega)]; exact h.z0, by rw [c _ _ (by omega)]; exact h.z1, by rw [c _ _ (by omega)]; exact h.z2, by rw [c _ _ (by omega)]; exact h.z3, by rw [c _ _ (by omega)]; exact h.z4, by rw [c _ _ (by omega)]; exact h.q0, by rw [c _ _ (by omega)]; exact h.q1, by rw [c _ _ (by omega)]; exact h.q2, by rw [c _ _ (by omega)]; exact h.q3, fun i => ?_, fun i => ?_, Nat.lt_of_lt_of_le s hb.size⟩
  · rw [hb.frozen (p := ⟨P, i, none⟩) (show P < W.heap.size by omega)]; exact h.fa i
  · rw [hb.frozen (p := ⟨P + 1 + 1, i, none⟩) s]; exact h.fq i
def b3w (w : World) (x : Value) (n1 n2 n3 : Int) (z : Aq) : World := ((w.alloc (.cells #[x, .int .i64 n1, .int .i64 n2, .int .i64 n3] 29)).alloc (.cells #[.int .u8 z.act, .int .i64 z.pos, .int .i64 z.n, .int .i64 z.m, .bool z.told, .bool z.skip] 41)).alloc (.cells #[.slice none 0 0, .int .i64 0, .int .i64 0, .int .i64 0] 29)
theorem b3_first (w : World) (x : Value) (n1 n2 n3 : Int) (z : Aq) : B3 w.heap.size x n1 n2 n3 z (b3w w x n1 n2 n3 z) ∧ Below w.heap.size w (b3w w x n1 n2 n3 z) := by
  obtain ⟨w1, h1⟩ : ∃ W, W = w.alloc (.cells #[x, .int .i64 n1, .int .i64 n2, .int .i64 n3] 29) := ⟨_, rfl⟩
  obtain ⟨w2, h2⟩ : ∃ W, W = w1.alloc (.cells #[.int .u8 z.act, .int .i64 z.pos, .int .i64 z.n, .int .i64 z.m, .bool z.told, .bool z.skip] 41) := ⟨_, rfl⟩
  obtain ⟨w3, h3⟩ : ∃ W, W = w2.alloc (.cells #[.slice none 0 0, .int .i64 0, .int .i64 0, .int .i64 0] 29) := ⟨_, rfl⟩
  have e : b3w w x n1 n2 n3 z = w3 := by rw [h3, h2, h1]; rfl
  rw [e]
  have s1 : w1.heap.size = w.heap.size + 1 := by rw [h1]; simp
  have s2 : w2.heap.size = w.heap.size + 1 + 1 := by rw [h2]; simp [s1]
  have s3 : w3.heap.size = w.heap.size + 1 + 1 + 1 := by rw [h3]; simp [s2]
  have b1 : Below w.heap.size w w1 := by rw [h1]; exact (Below.refl _ _).alloc (Nat.le_refl _) _
  have b2 : Below w1.heap.size w1 w2 := by rw [h2]; exact (Below.refl _ _).alloc (Nat.le_refl _) _
  have b3 : Below w2.heap.size w2 w3 := by rw [h3]; exact (Below.refl _ _).alloc (Nat.le_refl _) _
  have k1 : ∀ i, w3.cell? ⟨w.heap.size, i, none⟩ = (#[x, .int .i64 n1, .int .i64 n2, .int .i64 n3] : Array Value)[i]? := fun i => by
    rw [b3.cell (p := ⟨w.heap.size, i, none⟩) (show w.heap.size < w2.heap.size by omega), b2.cell (p := ⟨w.heap.size, i, none⟩) (show w.heap.size < w1.heap.size by omega), h1]
    exact World.cell?_alloc_new ..
  have k2 : ∀ i, w3.cell? ⟨w.heap.size + 1, i, none⟩ = (#[.int .u8 z.act, .int .i64 z.pos, .int .i64 z.n, .int .i64 z.m, .bool z.told, .bool z.skip] : Array Value)[i]? := fun i => by
    rw [b3.cell (p := ⟨w.heap.size + 1, i, none⟩) (show w.heap.size + 1 < w2.heap.size by omega), h2, ← s1]
    exact World.cell?_alloc_new ..
  have k3 : ∀ i, w3.cell? ⟨w.heap.size + 1 + 1, i, none⟩ = (#[.slice none 0 0, .int .i64 0, .int .i64 0, .int .i64 0] : Array Value)[i]? := fun i => by
    rw [h3, ← s2]
    exact World.cell?_alloc_new ..
  refine ⟨⟨k1 0, k1 1, k1 2, k1 3, k2 0, k2 1, k2 2, k2 3, k2 4, k3 0, k3 1, k3 2, k3 3, fun i => ?_, fun i => ?_, by omega⟩, (b1.trans (b2.mono (by omega))).trans (b3.mono (by omega))⟩
  · rw [b3.frozen (p := ⟨w.heap.size, i, none⟩) (show w.heap.size < w2.heap.size by omega), b2.frozen (p := ⟨w.heap.size, i, none⟩) (show w.heap.size < w1.heap.size by omega), h1]
    exact World.frozen?_alloc_at _ 29 _ i rfl
  · rw [h3, ← s2]
    exact World.frozen?_alloc_at _ 29 _ i rfl
/-- Behind the reference's One. -/
def ROne (w : World) (rc : Nat) (m : M) (z : Aq) (tl : Int) (e : Ending) (w' : World) : Prop :=
  ∃ c' cap', e = .returned (.tuple #[((z.q tl).on m).1.rv c' cap', .int .i64 (z.res tl ((z.q tl).on m).2).1, .int .i64 (z.res tl ((z.q tl).on m).2).2.1, .int .i64 (z.res tl ((z.q tl).on m).2).2.2]) ∧ RAt w' c' ((z.q tl).on m).1 ∧ Below w.heap.size w w' ∧ (c' = rc ∨ w.heap.size ≤ c')
theorem B3.put {P : Nat} {x : Value} {n1 n2 n3 : Int} {z : Aq} {W : World} (h : B3 P x n1 n2 n3 z W) (y : Value) (k1 k2 k3 : Int) : B3 P y k1 k2 k3 z (four W P y k1 k2 k3) := by
  have o : ∀ {q i : Nat} {u : Value}, q ≠ P → W.cell? ⟨q, i, none⟩ = some u → (four W P y k1 k2 k3).cell? ⟨q, i, none⟩ = some u := fun hq hc => by
    unfold four
    exact set_other (set_other (set_other (set_other hc (.inl (Ne.symm hq))) (.inl (Ne.symm hq))) (.inl (Ne.symm hq))) (.inl (Ne.symm hq))
  refine ⟨?_, ?_, ?_, ?_, o (by omega) h.z0, o (by omega) h.z1, o (by omega) h.z2, o (by omega) h.z3, o (by omega) h.z4, o (by omega) h.q0, o (by omega) h.q1, o (by omega) h.q2, o (by omega) h.q3, fun i => ?_, fun i => ?_, ?_⟩
  · exact set_other (set_other (set_other (set_same h.a0) (by omega)) (by omega)) (by omega)
  · exact set_other (set_other (set_same (set_other h.a1 (by omega))) (by omega)) (by omega)
  · exact set_other (set_same (set_other (set_other h.a2 (by omega)) (by omega))) (by omega)
  · exact set_same (set_other (set_other (set_other h.a3 (by omega)) (by omega)) (by omega))
  · unfold four; simp only [World.frozen?_setCell]; exact h.fa i
  · unfold four; simp only [World.frozen?_setCell]; exact h.fq i
  · have := h.sz
    unfold four
    simpa [World.setCell] using this
theorem one_put {w w4 : World} {m4 : M} {z : Aq} {x : Value} {n1 n2 n3 : Int} (hT : B3 w.heap.size x n1 n2 n3 z w4) (hb : Below w.heap.size w w4) {c4 : Nat} (cap4 : Nat) (r4 : RAt w4 c4 m4) (hc : c4 ≠ w.heap.size) {w5 : World} (h5 : w5 = four w4 w.heap.size (.slice (some ⟨c4, 0, none⟩) m4.cells.length cap4) m4.count m4.live m4.stale) :
    B3 w.heap.size (.slice (some ⟨c4, 0, none⟩) m4.cells.length cap4) m4.count m4.live m4.stale z w5 ∧ RAt w5 c4 m4 ∧ Below w.heap.size w w5 := by
  subst h5
  have g1 := give (w := w) (X := w4) (q := w.heap.size) ⟨fun i hi => by
    match i, hi with
    | 0, _ => exact ⟨_, hT.a0⟩
    | 1, _ => exact ⟨_, hT.a1⟩
    | 2, _ => exact ⟨_, hT.a2⟩
    | 3, _ => exact ⟨_, hT.a3⟩, hb, Nat.le_refl _⟩ cap4 r4 hc
  exact ⟨hT.put _ _ _ _, g1.2.1, g1.2.2⟩
theorem one_done {w w5 : World} {rc : Nat} {m m4 : M} {z : Aq} {tl : Int} {x : Value} {n1 n2 n3 : Int} (hT : B3 w.heap.size x n1 n2 n3 z w5) (hb : Below w.heap.size w w5) {c4 : Nat} (cap4 : Nat) (r4 : RAt w5 c4 m4) (hc : c4 = rc ∨ w.heap.size + 1 + 1 < c4) (hrc : rc < w.heap.size)
    {a b d : Int} (h1 : ((z.q tl).on m).1 = m4) (h2 : z.res tl ((z.q tl).on m).2 = (a, b, d)) :
    ∃ X, X = four w5 (w.heap.size + 1 + 1) (.slice (some ⟨c4, 0, none⟩) m4.cells.length cap4) m4.count m4.live m4.stale ∧ (loadVar 29 ⟨w.heap.size + 1 + 1, 0, none⟩).run Tryd.prog X = .ok (m4.rv c4 cap4) X ∧ ROne w rc m z tl (.returned (.tuple #[m4.rv c4 cap4, .int .i64 a, .int .i64 b, .int .i64 d])) X := by
  have hres : Res w (w.heap.size + 1 + 1) w5 := ⟨fun i hi => by
      match i, hi with
      | 0, _ => exact ⟨_, hT.q0⟩
      | 1, _ => exact ⟨_, hT.q1⟩
      | 2, _ => exact ⟨_, hT.q2⟩
      | 3, _ => exact ⟨_, hT.q3⟩, hb, by omega⟩
  obtain ⟨k1, k2, k3⟩ := give hres cap4 r4 (by omega)
  refine ⟨_, rfl, k1, c4, cap4, ?_, ?_, k3, by omega⟩
  · rw [h1, h2]
  · rw [h1]; exact k2
section
variable {w : World} {rc cap : Nat} {m : M}
set_option maxHeartbeats 1000000 in
theorem refone_0 (hA : RAt w rc m) (hO : m.Ok 2305843009213693952) (z : Aq) (tl : Int) (ha : 0 ≤ z.act ∧ z.act ≤ 255) (hk : z.act % 7 = 0) :
    Calls Tryd.prog 14 #[m.rv rc cap, z.v, .int .i64 tl] w fun e w' => ROne w rc m z tl e w' := by
  obtain ⟨hT, hB⟩ := b3_first w (.slice (some ⟨rc, 0, none⟩) m.cells.length cap) m.count m.live m.stale z
  obtain ⟨w1, hw1⟩ : ∃ W, W = b3w w (.slice (some ⟨rc, 0, none⟩) m.cells.length cap) m.count m.live m.stale z := ⟨_, rfl⟩
  rw [← hw1] at hT hB
  have hA1 := hA.below hB hA.lt
  have HL := Lib.hid hA.lt
  have HT := Lib.hid hT
  have HB := Lib.hid hB
  have HW := Lib.hid hw1.symm
  clear hA hT hB hw1
  obtain ⟨act, pos, n, mm, told, skip⟩ := z
  simp only [Aq.v] at ha hk HT ⊢
  cases told
  · have eq : (⟨act, pos, n, mm, false, skip⟩ : Aq).q tl = .alloc n := by
      unfold Aq.q; simp only [Aq.h]; rw [if_pos hk]
    have er : ∀ a, (⟨act, pos, n, mm, false, skip⟩ : Aq).res tl a = (a.n, a.err, if a.err = 0 then a.n else tl) := fun a => by
      unfold Aq.res; simp only; rw [if_pos hk]
    have e0 : (act % 7 == 0) = true := by rw [beq_iff_eq]; omega
    have hw := refalloc_any w1 rc cap m (.word n) hA1 hO
    obtain ⟨H3, hH3⟩ : ∃ H3, H3 = m.alloc (.word n) := ⟨_, rfl⟩
    have HQ : Hid ((⟨act, pos, n, mm, false, skip⟩ : Aq).q tl = .alloc n ∧ (∀ a, (⟨act, pos, n, mm, false, skip⟩ : Aq).res tl a = (a.n, a.err, if a.err = 0 then a.n else tl)) ∧ m.alloc (.word n) = H3) := ⟨eq, er, hH3.symm⟩
    rw [← hH3] at hw
    obtain ⟨m4, n4, er4⟩ := H3
    simp only at hw
    clear eq er hH3 hA1 hO hk
    obtain ⟨a0, a1, a2, a3, z0, z1, z2, z3, z4, q0, q1, q2, q3, fa, fq, sz⟩ := HT.out
    unfold M.rv at hw ⊢
    unfold b3w at HW
    simp only at HW
    go_enter Tryd.func14, Tryd.ntmps14
    go_wp2_with fail
    rw [HW.out]
    refine hw.mono ?_
    rintro e w4 ⟨c4, cap4, rfl, r4, b4, hc4⟩
    have T4 := Lib.hid (HT.out.below b4)
    have R4 := Lib.hid r4
    have HC : Hid (c4 = rc ∨ w.heap.size + 1 + 1 < c4) := by unfold Hid; omega
    have B4 := Lib.hid (HB.out.trans (b4.mono HB.out.size))
    clear hw r4 b4 hc4 a0 a1 a2 a3 z0 z1 z2 z3 z4 q0 q1 q2 q3 fa fq sz HT HW HB
    obtain ⟨a0, a1, a2, a3, z0, z1, z2, z3, z4, q0, q1, q2, q3, fa, fq, sz⟩ := T4.out
    unfold M.rv
    obtain ⟨w5, hw5⟩ : ∃ W, W = four w4 w.heap.size (.slice (some ⟨c4, 0, none⟩) m4.cells.length cap4) m4.count m4.live m4.stale := ⟨_, rfl⟩
    have P5 := Lib.hid (one_put T4.out B4.out cap4 R4.out (by have := HC.out; have := HL.out; omega) hw5)
    obtain ⟨b0, b1, b2, b3, y0, y1, y2, y3, y4, p0, p1, p2, p3, ga, gq, sy⟩ := P5.out.1
    unfold four at hw5
    have HW5 := Lib.hid hw5.symm
    clear hw5 z0 z1 z2 z3 z4 q0 q1 q2 q3 fq sz y0 y1 y2 y3 y4
    by_cases h0 : er4 = 0
    · have h0b : (er4 == 0) = true := by rw [beq_iff_eq]; exact h0
      have H0 := Lib.hid h0
      clear h0
      go_wp2_with (first | rw [HW5.out] | fail)
      obtain ⟨X, hX, g1, g2⟩ := one_done P5.out.1 P5.out.2.2 cap4 P5.out.2.1 HC.out HL.out (m := m) (tl := tl) (a := n4) (b := er4) (d := n4) (by rw [HQ.out.1, show (Qn.on (.alloc n) m).1 = (m.alloc (.word n)).1 from rfl, HQ.out.2.2]) (by rw [HQ.out.1, HQ.out.2.1, show (Qn.on (.alloc n) m).2 = ⟨.no, (m.alloc (.word n)).2.1, false, (m.alloc (.word n)).2.2⟩ from rfl, HQ.out.2.2]; simp only [H0.out, if_true])
      unfold four at hX
      rw [← hX]
      exact bodyPost_ret (results_cell4 Tryd.results14 rfl rfl rfl rfl g1) rfl g2
    · have h0b : (er4 == 0) = false := by rw [beq_eq_false_iff_ne]; exact h0
      have H0 := Lib.hid h0
      clear h0
      go_wp2_with (first | rw [HW5.out] | fail)
      obtain ⟨X, hX, g1, g2⟩ := one_done P5.out.1 P5.out.2.2 cap4 P5.out.2.1 HC.out HL.out (m := m) (tl := tl) (a := n4) (b := er4) (d := tl) (by rw [HQ.out.1, show (Qn.on (.alloc n) m).1 = (m.alloc (.word n)).1 from rfl, HQ.out.2.2]) (by rw [HQ.out.1, HQ.out.2.1, show (Qn.on (.alloc n) m).2 = ⟨.no, (m.alloc (.word n)).2.1, false, (m.alloc (.word n)).2.2⟩ from rfl, HQ.out.2.2]; simp only [if_neg H0.out])
      unfold four at hX
      rw [← hX]
      exact bodyPost_ret (results_cell4 Tryd.results14 rfl rfl rfl rfl g1) rfl g2
  · have eq : (⟨act, pos, n, mm, true, skip⟩ : Aq).q tl = .alloc n := by
      unfold Aq.q; simp only [Aq.h]; rw [if_pos hk]
    have er : ∀ a, (⟨act, pos, n, mm, true, skip⟩ : Aq).res tl a = (a.n, a.err, if a.err = 0 then a.n else tl) := fun a => by
      unfold Aq.res; simp only; rw [if_pos hk]
    have e0 : (act % 7 == 0) = true := by rw [beq_iff_eq]; omega
    have hw := refalloc_any w1 rc cap m (.word n) hA1 hO
    obtain ⟨H3, hH3⟩ : ∃ H3, H3 = m.alloc (.word n) := ⟨_, rfl⟩
    have HQ : Hid ((⟨act, pos, n, mm, true, skip⟩ : Aq).q tl = .alloc n ∧ (∀ a, (⟨act, pos, n, mm, true, skip⟩ : Aq).res tl a = (a.n, a.err, if a.err = 0 then a.n else tl)) ∧ m.alloc (.word n) = H3) := ⟨eq, er, hH3.symm⟩
    rw [← hH3] at hw
    obtain ⟨m4, n4, er4⟩ := H3
    simp only at hw
    clear eq er hH3 hA1 hO hk
    obtain ⟨a0, a1, a2, a3, z0, z1, z2, z3, z4, q0, q1, q2, q3, fa, fq, sz⟩ := HT.out
    unfold M.rv at hw ⊢
    unfold b3w at HW
    simp only at HW
    go_enter Tryd.func14, Tryd.ntmps14
    go_wp2_with fail
    rw [HW.out]
    refine hw.mono ?_
    rintro e w4 ⟨c4, cap4, rfl, r4, b4, hc4⟩
    have T4 := Lib.hid (HT.out.below b4)
    have R4 := Lib.hid r4
    have HC : Hid (c4 = rc ∨ w.heap.size + 1 + 1 < c4) := by unfold Hid; omega
    have B4 := Lib.hid (HB.out.trans (b4.mono HB.out.size))
    clear hw r4 b4 hc4 a0 a1 a2 a3 z0 z1 z2 z3 z4 q0 q1 q2 q3 fa fq sz HT HW HB
    obtain ⟨a0, a1, a2, a3, z0, z1, z2, z3, z4, q0, q1, q2, q3, fa, fq, sz⟩ := T4.out
    unfold M.rv
    obtain ⟨w5, hw5⟩ : ∃ W, W = four w4 w.heap.size (.slice (some ⟨c4, 0, none⟩) m4.cells.length cap4) m4.count m4.live m4.stale := ⟨_, rfl⟩
    have P5 := Lib.hid (one_put T4.out B4.out cap4 R4.out (by have := HC.out; have := HL.out; omega) hw5)
    obtain ⟨b0, b1, b2, b3, y0, y1, y2, y3, y4, p0, p1, p2, p3, ga, gq, sy⟩ := P5.out.1
    unfold four at hw5
    have HW5 := Lib.hid hw5.symm
    clear hw5 z0 z1 z2 z3 z4 q0 q1 q2 q3 fq sz y0 y1 y2 y3 y4
    by_cases h0 : er4 = 0
    · have h0b : (er4 == 0) = true := by rw [beq_iff_eq]; exact h0
      have H0 := Lib.hid h0
      clear h0
      go_wp2_with (first | rw [HW5.out] | fail)
      obtain ⟨X, hX, g1, g2⟩ := one_done P5.out.1 P5.out.2.2 cap4 P5.out.2.1 HC.out HL.out (m := m) (tl := tl) (a := n4) (b := er4) (d := n4) (by rw [HQ.out.1, show (Qn.on (.alloc n) m).1 = (m.alloc (.word n)).1 from rfl, HQ.out.2.2]) (by rw [HQ.out.1, HQ.out.2.1, show (Qn.on (.alloc n) m).2 = ⟨.no, (m.alloc (.word n)).2.1, false, (m.alloc (.word n)).2.2⟩ from rfl, HQ.out.2.2]; simp only [H0.out, if_true])
      unfold four at hX
      rw [← hX]
      exact bodyPost_ret (results_cell4 Tryd.results14 rfl rfl rfl rfl g1) rfl g2
    · have h0b : (er4 == 0) = false := by rw [beq_eq_false_iff_ne]; exact h0
      have H0 := Lib.hid h0
      clear h0
      go_wp2_with (first | rw [HW5.out] | fail)
      obtain ⟨X, hX, g1, g2⟩ := one_done P5.out.1 P5.out.2.2 cap4 P5.out.2.1 HC.out HL.out (m := m) (tl := tl) (a := n4) (b := er4) (d := tl) (by rw [HQ.out.1, show (Qn.on (.alloc n) m).1 = (m.alloc (.word n)).1 from rfl, HQ.out.2.2]) (by rw [HQ.out.1, HQ.out.2.1, show (Qn.on (.alloc n) m).2 = ⟨.no, (m.alloc (.word n)).2.1, false, (m.alloc (.word n)).2.2⟩ from rfl, HQ.out.2.2]; simp only [if_neg H0.out])
      unfold four at hX
      rw [← hX]
      exact bodyPost_ret (results_cell4 Tryd.results14 rfl rfl rfl rfl g1) rfl g2
set_option maxHeartbeats 1000000 in
theorem refone_1 (hA : RAt w rc m) (hO : m.Ok 2305843009213693952) (z : Aq) (tl : Int) (ha : 0 ≤ z.act ∧ z.act ≤ 255) (hk : z.act % 7 = 1) :
    Calls Tryd.prog 14 #[m.rv rc cap, z.v, .int .i64 tl] w fun e w' => ROne w rc m z tl e w' := by
  obtain ⟨hT, hB⟩ := b3_first w (.slice (some ⟨rc, 0, none⟩) m.cells.length cap) m.count m.live m.stale z
  obtain ⟨w1, hw1⟩ : ∃ W, W = b3w w (.slice (some ⟨rc, 0, none⟩) m.cells.length cap) m.count m.live m.stale z := ⟨_, rfl⟩
  rw [← hw1] at hT hB
  have hA1 := hA.below hB hA.lt
  have HL := Lib.hid hA.lt
  have HT := Lib.hid hT
  have HB := Lib.hid hB
  have HW := Lib.hid hw1.symm
  clear hA hT hB hw1
  obtain ⟨act, pos, n, mm, told, skip⟩ := z
  simp only [Aq.v] at ha hk HT ⊢
  cases told
  · have eq : (⟨act, pos, n, mm, false, skip⟩ : Aq).q tl = .word pos := by
      unfold Aq.q; simp only [Aq.h]; rw [if_neg (show ¬ act % 7 = 0 by omega), if_pos hk]
      simp
    have er : ∀ a, (⟨act, pos, n, mm, false, skip⟩ : Aq).res tl a = (a.n, a.err, tl) := fun a => by
      unfold Aq.res; simp only; rw [if_neg (show ¬ act % 7 = 0 by omega), if_pos hk]
    have e0 : (act % 7 == 0) = false := by rw [beq_eq_false_iff_ne]; omega
    have e1 : (act % 7 == 1) = true := by rw [beq_iff_eq]; omega
    have hw := refword_any w1 rc cap m pos hA1 hO
    obtain ⟨H3, hH3⟩ : ∃ H3, H3 = m.word pos := ⟨_, rfl⟩
    have HQ : Hid ((⟨act, pos, n, mm, false, skip⟩ : Aq).q tl = .word pos ∧ (∀ a, (⟨act, pos, n, mm, false, skip⟩ : Aq).res tl a = (a.n, a.err, tl)) ∧ m.word pos = H3) := ⟨eq, er, hH3.symm⟩
    rw [← hH3] at hw
    obtain ⟨m4, n4, er4⟩ := H3
    simp only at hw
    clear eq er hH3 hA1 hO hk
    obtain ⟨a0, a1, a2, a3, z0, z1, z2, z3, z4, q0, q1, q2, q3, fa, fq, sz⟩ := HT.out
    unfold M.rv at hw ⊢
    unfold b3w at HW
    simp only at HW
    go_enter Tryd.func14, Tryd.ntmps14
    go_wp2_with fail
    rw [HW.out]
    refine hw.mono ?_
    rintro e w4 ⟨c4, cap4, rfl, r4, b4, hc4⟩
    have T4 := Lib.hid (HT.out.below b4)
    have R4 := Lib.hid r4
    have HC : Hid (c4 = rc ∨ w.heap.size + 1 + 1 < c4) := by unfold Hid; omega
    have B4 := Lib.hid (HB.out.trans (b4.mono HB.out.size))
    clear hw r4 b4 hc4 a0 a1 a2 a3 z0 z1 z2 z3 z4 q0 q1 q2 q3 fa fq sz HT HW HB
    obtain ⟨a0, a1, a2, a3, z0, z1, z2, z3, z4, q0, q1, q2, q3, fa, fq, sz⟩ := T4.out
    unfold M.rv
    obtain ⟨w5, hw5⟩ : ∃ W, W = four w4 w.heap.size (.slice (some ⟨c4, 0, none⟩) m4.cells.length cap4) m4.count m4.live m4.stale := ⟨_, rfl⟩
    have P5 := Lib.hid (one_put T4.out B4.out cap4 R4.out (by have := HC.out; have := HL.out; omega) hw5)
    obtain ⟨b0, b1, b2, b3, y0, y1, y2, y3, y4, p0, p1, p2, p3, ga, gq, sy⟩ := P5.out.1
    unfold four at hw5
    have HW5 := Lib.hid hw5.symm
    clear hw5 z0 z1 z2 z3 z4 q0 q1 q2 q3 fq sz y0 y1 y2 y3 y4
    go_wp2_with (first | rw [HW5.out] | fail)
    obtain ⟨X, hX, g1, g2⟩ := one_done P5.out.1 P5.out.2.2 cap4 P5.out.2.1 HC.out HL.out (m := m) (tl := tl) (a := n4) (b := er4) (d := tl) (by rw [HQ.out.1, show (Qn.on (.word pos) m).1 = (m.word pos).1 from rfl, HQ.out.2.2]) (by rw [HQ.out.1, HQ.out.2.1, show (Qn.on (.word pos) m).2 = ⟨.no, (m.word pos).2.1, false, (m.word pos).2.2⟩ from rfl, HQ.out.2.2])
    unfold four at hX
    rw [← hX]
    exact bodyPost_ret (results_cell4 Tryd.results14 rfl rfl rfl rfl g1) rfl g2
  · have eq : (⟨act, pos, n, mm, true, skip⟩ : Aq).q tl = .word tl := by
      unfold Aq.q; simp only [Aq.h]; rw [if_neg (show ¬ act % 7 = 0 by omega), if_pos hk]
      simp
    have er : ∀ a, (⟨act, pos, n, mm, true, skip⟩ : Aq).res tl a = (a.n, a.err, tl) := fun a => by
      unfold Aq.res; simp only; rw [if_neg (show ¬ act % 7 = 0 by omega), if_pos hk]
    have e0 : (act % 7 == 0) = false := by rw [beq_eq_false_iff_ne]; omega
    have e1 : (act % 7 == 1) = true := by rw [beq_iff_eq]; omega
    have hw := refword_any w1 rc cap m tl hA1 hO
    obtain ⟨H3, hH3⟩ : ∃ H3, H3 = m.word tl := ⟨_, rfl⟩
    have HQ : Hid ((⟨act, pos, n, mm, true, skip⟩ : Aq).q tl = .word tl ∧ (∀ a, (⟨act, pos, n, mm, true, skip⟩ : Aq).res tl a = (a.n, a.err, tl)) ∧ m.word tl = H3) := ⟨eq, er, hH3.symm⟩
    rw [← hH3] at hw
    obtain ⟨m4, n4, er4⟩ := H3
    simp only at hw
    clear eq er hH3 hA1 hO hk
    obtain ⟨a0, a1, a2, a3, z0, z1, z2, z3, z4, q0, q1, q2, q3, fa, fq, sz⟩ := HT.out
    unfold M.rv at hw ⊢
    unfold b3w at HW
    simp only at HW
    go_enter Tryd.func14, Tryd.ntmps14
    go_wp2_with fail
    rw [HW.out]
    refine hw.mono ?_
    rintro e w4 ⟨c4, cap4, rfl, r4, b4, hc4⟩
    have T4 := Lib.hid (HT.out.below b4)
    have R4 := Lib.hid r4
    have HC : Hid (c4 = rc ∨ w.heap.size + 1 + 1 < c4) := by unfold Hid; omega
    have B4 := Lib.hid (HB.out.trans (b4.mono HB.out.size))
    clear hw r4 b4 hc4 a0 a1 a2 a3 z0 z1 z2 z3 z4 q0 q1 q2 q3 fa fq sz HT HW HB
    obtain ⟨a0, a1, a2, a3, z0, z1, z2, z3, z4, q0, q1, q2, q3, fa, fq, sz⟩ := T4.out
    unfold M.rv
    obtain ⟨w5, hw5⟩ : ∃ W, W = four w4 w.heap.size (.slice (some ⟨c4, 0, none⟩) m4.cells.length cap4) m4.count m4.live m4.stale := ⟨_, rfl⟩
    have P5 := Lib.hid (one_put T4.out B4.out cap4 R4.out (by have := HC.out; have := HL.out; omega) hw5)
    obtain ⟨b0, b1, b2, b3, y0, y1, y2, y3, y4, p0, p1, p2, p3, ga, gq, sy⟩ := P5.out.1
    unfold four at hw5
    have HW5 := Lib.hid hw5.symm
    clear hw5 z0 z1 z2 z3 z4 q0 q1 q2 q3 fq sz y0 y1 y2 y3 y4
    go_wp2_with (first | rw [HW5.out] | fail)
    obtain ⟨X, hX, g1, g2⟩ := one_done P5.out.1 P5.out.2.2 cap4 P5.out.2.1 HC.out HL.out (m := m) (tl := tl) (a := n4) (b := er4) (d := tl) (by rw [HQ.out.1, show (Qn.on (.word tl) m).1 = (m.word tl).1 from rfl, HQ.out.2.2]) (by rw [HQ.out.1, HQ.out.2.1, show (Qn.on (.word tl) m).2 = ⟨.no, (m.word tl).2.1, false, (m.word tl).2.2⟩ from rfl, HQ.out.2.2])
    unfold four at hX
    rw [← hX]
    exact bodyPost_ret (results_cell4 Tryd.results14 rfl rfl rfl rfl g1) rfl g2
end
end Go.Proofs.YthdcilbbllldiaaDoor
