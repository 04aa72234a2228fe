/- StepTurns's law: at any byte, any three rows of asks and any row of bytes it answers true. Conditions: the rows can be read; the library's table stands. -/
import Derived.Test.YthdcilbbllldiaaDoorLawG
namespace Go.Proofs.YthdcilbbllldiaaDoor
open Go.RowKit Go.Op
set_option maxRecDepth 100000

theorem neq32_any (v : Value) (hv : ∃ a b c d e : Int, v = .agg #[.int .i64 a, .int .i64 b, .int .i64 c, .int .i64 d, .int .i64 e]) (xo yo : Operand) (w : World) : (eqGuard .neq 32 xo yo v v).run Tryd.prog w = .ok () w ∧ (binOp .neq 32 v v).run Tryd.prog w = .ok (.bool false) w := by
  obtain ⟨a, b, c, d, e, rfl⟩ := hv
  constructor
  · kernel_rfl
  · go_simp
theorem cmp_lss3 {a b : Int} {r : Bool} (xo yo : Operand) (w : World) (h : decide (a < b) = r) : (eqGuard .lss 3 xo yo (.int .i64 a) (.int .i64 b)).run Tryd.prog w = .ok () w ∧ (binOp .lss 3 (.int .i64 a) (.int .i64 b)).run Tryd.prog w = .ok (.bool r) w :=
  ⟨by simp [eqGuard], by subst h; go_simp⟩
theorem put1_self {α : Type} (f : Nat → α) (k : Nat) : put1 f k (f k) = f := by
  funext j
  unfold put1
  split
  · rename_i e; rw [e]
  · rfl
def QMid (Q : World → Prop) (_ : List Bool) (_ : Nat → Value) (W : World) : Prop := Q W
theorem QMid.out {Q : World → Prop} {bs : List Bool} {β : Nat → Value} {W : World} (h : QMid Q bs β W) : Q W := h
section
variable {w0 : World} {b c r qa qp qr vb : Nat} {ad : Nat → Option Addr} {cap : Nat → Nat} {l : Nat → List Aq} {lb : Nat → Nat} {N : Int} {m : M} {L : List Mach} {R R1 : Nat → Rn} {mr : M} {rc cp : Nat} {w : World}
theorem tu_steps {k : Nat} {x : Mach} (h : Tu w0 b c r qa qp qr vb ad cap l lb N m L R R1 mr rc cp w) (hx : L[k]? = some x) : Calls Tryd.prog 12 #[.pointer (some ⟨x.xb, 0, none⟩)] w fun e w' => e = .returned (.int .i64 ((R k).steps : Int)) ∧ w = w' := by
  have := steps_any (h.tm.team.mac k x hx)
  rwa [(h.tm.lm k x hx).pl] at this
theorem tm_start {w3 w4 w5 : World} (h : Has w0 b c r 0 w m) (ad : Nat → Option Addr) (cap : Nat → Nat) (l : Nat → List Aq) (lb : Nat → Nat)
    (h3 : w3 = w.alloc (.cells #[.slice (ad 0) (l 0).length (cap 0), .slice (ad 1) (l 1).length (cap 1), .slice (ad 2) (l 2).length (cap 2)] 48)) (h4 : w4 = w3.alloc (.cells #[.pointer none, .pointer none, .pointer none] 49))
    (h5 : w5 = w4.alloc (.cells #[.int .i64 0, .int .i64 0, .int .i64 0, .int .i64 0, .int .i64 0, .int .i64 0, .int .i64 0, .int .i64 0, .int .i64 0, .int .i64 0, .int .i64 0, .int .i64 0, .int .i64 0, .int .i64 0, .int .i64 0] 50)) :
    Tm w0 b c r w.heap.size w3.heap.size w4.heap.size ad cap l lb 0 m [] (fun _ => r0) (fun _ => r0) w5 := by
  have b3 : Below w.heap.size w w3 := by rw [h3]; exact (Below.refl _ _).alloc (Nat.le_refl _) _
  have b4 : Below w3.heap.size w3 w4 := by rw [h4]; exact (Below.refl _ _).alloc (Nat.le_refl _) _
  have b5 : Below w4.heap.size w4 w5 := by rw [h5]; exact (Below.refl _ _).alloc (Nat.le_refl _) _
  have z3 : w3.heap.size = w.heap.size + 1 := by rw [h3]; simp
  have z4 : w4.heap.size = w3.heap.size + 1 := by rw [h4]; simp
  have z5 : w5.heap.size = w4.heap.size + 1 := by rw [h5]; simp
  have b35 : Below w3.heap.size w3 w5 := b4.trans (b5.mono (by omega))
  have o := h.at_.own
  have o1 := o.lb
  have o2 := o.lc
  have o3 := o.lr
  have hw0 := h.below.size
  refine ⟨Team.nil (h.later (b3.trans (b35.mono (by omega)))), fun k hk => ?_, fun k x hx => (by simp at hx), fun k _ hk => ?_, fun k hk j v hj => ?_, fun j => ?_, fun j => ?_, fun k x hx => (by simp at hx), fun k hk => absurd hk (Nat.not_lt_zero _), fun z hz => ?_, fun k hk => absurd hk (Nat.not_lt_zero _), by omega, by omega⟩
  · rw [b35.cell (p := ⟨w.heap.size, k, none⟩) (show w.heap.size < w3.heap.size by omega), h3, World.cell?_alloc_new]
    match k, hk with
    | 0, _ => rfl
    | 1, _ => rfl
    | 2, _ => rfl
  · rw [b5.cell (p := ⟨w3.heap.size, k, none⟩) (show w3.heap.size < w4.heap.size by omega), h4, World.cell?_alloc_new]
    match k, hk with
    | 0, _ => rfl
    | 1, _ => rfl
    | 2, _ => rfl
  · rw [h5, World.cell?_alloc_new, ← hj]
    have hjl : j < 5 := by
      have := (List.getElem?_eq_some_iff.1 hj).1
      exact this
    match k, hk, j, hjl with
    | 0, _, 0, _ => rfl
    | 0, _, 1, _ => rfl
    | 0, _, 2, _ => rfl
    | 0, _, 3, _ => rfl
    | 0, _, 4, _ => rfl
    | 1, _, 0, _ => rfl
    | 1, _, 1, _ => rfl
    | 1, _, 2, _ => rfl
    | 1, _, 3, _ => rfl
    | 1, _, 4, _ => rfl
    | 2, _, 0, _ => rfl
    | 2, _, 1, _ => rfl
    | 2, _, 2, _ => rfl
    | 2, _, 3, _ => rfl
    | 2, _, 4, _ => rfl
  · rw [b5.frozen (p := ⟨w3.heap.size, j, none⟩) (show w3.heap.size < w4.heap.size by omega), h4]
    exact World.frozen?_alloc_at _ 49 _ j rfl
  · rw [h5]
    exact World.frozen?_alloc_at _ 50 _ j rfl
  · refine ⟨?_, ?_, fun i x hx => (by simp at hx)⟩
    · rcases hz with e | e | e | ⟨k, hk, _⟩
      · omega
      · omega
      · omega
      · exact absurd hk (Nat.not_lt_zero _)
    · rcases hz with e | e | e | ⟨k, hk, _⟩
      · omega
      · omega
      · omega
      · exact absurd hk (Nat.not_lt_zero _)
/-- One more machine, its place laid down. -/
theorem tm_add {w1 w2 : World} (h : Tm w0 b c r qa qp qr ad cap l lb N m L (fun _ => r0) R1 w) (hL : L.length < 3) (h1 : w1 = w.alloc (.cells #[.slice (ad L.length) (l L.length).length (cap L.length)] 22)) (h2 : w2 = w1.alloc (machObj b (caps31 w.heap.size))) :
    Tm w0 b c r qa qp qr ad cap l (put1 lb L.length w.heap.size) N m (L ++ [mach0 w1.heap.size (caps31 w.heap.size)]) (fun _ => r0) R1 (w2.setCell ⟨qp, L.length, none⟩ (.pointer (some ⟨w1.heap.size, 0, none⟩))) ∧ w2.cell? ⟨qp, L.length, none⟩ = some (.pointer none) ∧ w2.frozen? ⟨qp, L.length, none⟩ = false := by
  have b1 : Below w.heap.size w w1 := by rw [h1]; exact (Below.refl _ _).alloc (Nat.le_refl _) _
  have b2 : Below w1.heap.size w1 w2 := by rw [h2]; exact (Below.refl _ _).alloc (Nat.le_refl _) _
  have z1 : w1.heap.size = w.heap.size + 1 := by rw [h1]; simp
  have b12 : Below w.heap.size w w2 := b1.trans (b2.mono (by omega))
  have hp := h.off qp (by simp)
  have hr := h.off qr (by simp)
  have ha := h.off qa (by simp)
  have hcp : w2.cell? ⟨qp, L.length, none⟩ = some (.pointer none) := by rw [b12.cell (p := ⟨qp, L.length, none⟩) hp.lt]; exact h.np _ (Nat.le_refl _) hL
  have hB : But qp w2 (w2.setCell ⟨qp, L.length, none⟩ (.pointer (some ⟨w1.heap.size, 0, none⟩))) := (But.refl qp w2).set L.length _
  have ht := (h.team.later b1).add (caps31 w.heap.size)
  rw [← h2] at ht
  have of2 : ∀ z, Off z b c r w L → Off z b c r w2 (L ++ [mach0 w1.heap.size (caps31 w.heap.size)]) := fun z hz => by rw [h2]; exact (hz.later b1.size).add (caps31 w.heap.size)
  have hq := of2 qp hp
  have hn : Off w.heap.size b c r w2 (L ++ [mach0 w1.heap.size (caps31 w.heap.size)]) := by
    rw [h2]
    refine Off.add ⟨by omega, ?_, fun i y hy => ?_⟩ (caps31 w.heap.size)
    · have o := h.team.has.at_.own
      have := o.lb
      have := o.lc
      have := o.lr
      exact ⟨by omega, by omega, by omega⟩
    · have p := (h.team.mac i y hy).sys.pt
      have := p.lt
      refine ⟨by omega, fun e => ?_⟩
      have := (World.ownsRow.lt p.own _ e).2
      omega
  have ht2 := ht.beside (g := qp) hB.size (ht.has.below.trans ⟨hB.os, hB.tape, hB.output, hB.size, fun k hk2 => hB.block k (Nat.lt_of_lt_of_le hk2 ht.has.below.size) (by have := h.hv.1; omega)⟩) hB.block ⟨hq.m.1, hq.m.2.1, hq.m.2.2, hq.x⟩
  have k2 : ∀ z, z < w.heap.size → z ≠ qp → (w2.setCell ⟨qp, L.length, none⟩ (.pointer (some ⟨w1.heap.size, 0, none⟩))).heap[z]? = w.heap[z]? := fun z hz hne => (hB.block z (Nat.lt_of_lt_of_le hz b12.size) hne).trans (b12.block z hz)
  have cl : ∀ z j, z < w.heap.size → z ≠ qp → (w2.setCell ⟨qp, L.length, none⟩ (.pointer (some ⟨w1.heap.size, 0, none⟩))).cell? ⟨z, j, none⟩ = w.cell? ⟨z, j, none⟩ := fun z j hz hne => World.cell?_of_block (w := w) (a := ⟨z, j, none⟩) (k2 z hz hne)
  have last : ∀ (j : Nat) (z : Mach), (L ++ [mach0 w1.heap.size (caps31 w.heap.size)])[j]? = some z → (j < L.length ∧ L[j]? = some z) ∨ (j = L.length ∧ z = mach0 w1.heap.size (caps31 w.heap.size)) := fun j z hz => by
    rw [List.getElem?_append] at hz
    split at hz
    · rename_i hj; exact .inl ⟨hj, hz⟩
    · have hj := (List.getElem?_eq_some_iff.1 hz).1
      simp at hj
      obtain rfl : j = L.length := by omega
      simp at hz
      exact .inr ⟨rfl, hz.symm⟩
  refine ⟨⟨ht2, fun k hk => by rw [cl qa k ha.lt h.n2.1]; exact h.sl k hk, fun k x hx => ?_, fun k h1' h2' => ?_, fun k hk => range_but (h.rn k hk) (k2 qr hr.lt h.n2.2.2.symm), fun j => ?_, fun j => ?_, fun k x hx => ?_, fun k hk => ?_, fun z hz => ?_, fun k hk => ?_, h.n2, h.hv⟩, hcp, by rw [b12.frozen (p := ⟨qp, L.length, none⟩) hp.lt]; exact h.fp _⟩
  · rcases last k x hx with ⟨hk, e⟩ | ⟨rfl, rfl⟩
    · exact set_other (by rw [b12.cell (p := ⟨qp, k, none⟩) hp.lt]; exact h.pt k x e) (by omega)
    · exact set_same hcp
  · simp at h1'
    exact set_other (by rw [b12.cell (p := ⟨qp, k, none⟩) hp.lt]; exact h.np k (by omega) h2') (by omega)
  · rw [World.frozen?_setCell, b12.frozen (p := ⟨qp, j, none⟩) hp.lt]; exact h.fp j
  · rw [World.frozen?_setCell, b12.frozen (p := ⟨qr, j, none⟩) hr.lt]; exact h.fr j
  · rcases last k x hx with ⟨hk, e⟩ | ⟨rfl, rfl⟩
    · rw [put1_ne _ _ (by omega)]; exact h.lm k x e
    · rw [put1_at]; exact Lm.start _ _ _
  · simp at hk
    by_cases e : k = L.length
    · subst e
      rw [put1_at]
      exact set_other (by rw [b2.cell (p := ⟨w.heap.size, 0, none⟩) (show w.heap.size < w1.heap.size by omega), h1, World.cell?_alloc_new]; rfl) (.inl (by have := hp.lt; omega))
    · rw [put1_ne _ _ e, cl (lb k) 0 (h.off (lb k) (.inr (.inr (.inr ⟨k, by omega, rfl⟩)))).lt (h.n1 k (by omega)).1]
      exact h.lc k (by omega)
  · refine (Off.later ?_ hB.size)
    rcases hz with e | e | e | ⟨k, hk, e⟩
    · exact of2 z (h.off z (by simp [e]))
    · exact of2 z (h.off z (by simp [e]))
    · exact of2 z (h.off z (by simp [e]))
    · simp at hk
      by_cases e2 : k = L.length
      · subst e2
        rw [put1_at] at e
        subst e
        exact hn
      · rw [put1_ne _ _ e2] at e
        exact of2 z (h.off z (.inr (.inr (.inr ⟨k, by omega, e⟩))))
  · simp at hk
    by_cases e : k = L.length
    · subst e
      rw [put1_at]
      have := hp.lt
      have := hr.lt
      omega
    · rw [put1_ne _ _ e]
      exact h.n1 k (by omega)
theorem tu_start {w1 w2 : World} (h : Tm w0 b c r qa qp qr ad cap l lb N m L R R1 w) (rA : RAt w1 rc mr) (b1 : Below w.heap.size w w1) (hrc : w.heap.size ≤ rc) (h2 : w2 = w1.alloc (.cells (mr.row rc cp).toArray 29)) :
    Tu w0 b c r qa qp qr w1.heap.size ad cap l lb N m L R R1 mr rc cp w2 := by
  have b2 : Below w1.heap.size w1 w2 := by rw [h2]; exact (Below.refl _ _).alloc (Nat.le_refl _) _
  have z2 : w2.heap.size = w1.heap.size + 1 := by rw [h2]; simp
  have zs := b1.size
  have hlt := rA.lt
  have new : ∀ z, w.heap.size ≤ z → z < w2.heap.size → Off z b c r w2 L := fun z hz hz2 => by
    have o := h.team.has.at_.own
    have := o.lb
    have := o.lc
    have := o.lr
    refine ⟨hz2, ⟨by omega, by omega, by omega⟩, fun i y hy => ?_⟩
    have p := (h.team.mac i y hy).sys.pt
    have := p.lt
    refine ⟨by omega, fun e => ?_⟩
    have := (World.ownsRow.lt p.own _ e).2
    omega
  have hr := (h.off qr (by simp)).lt
  refine ⟨h.later (b1.trans (b2.mono zs)), rA.below b2 hlt, ⟨fun j v hj => ?_, fun i => ?_, by omega⟩, new _ zs (by omega), new _ hrc (by omega), fun z hz => ?_, ⟨by omega, by omega⟩, by have := h.team.has.below.size; omega⟩
  · rw [h2, Nat.zero_add, World.cell?_alloc_new]
    simpa using hj
  · rw [h2]
    exact World.frozen?_alloc_at _ 29 _ i rfl
  · have := (h.off z hz).lt
    omega
end
set_option maxHeartbeats 1000000 in
theorem turns_law (n : Nat) (hn8 : n ≤ 255) (ad : Nat → Option Addr) (cap : Nat → Nat) (l : Nat → List Aq) (tb : Option Addr) (T : List Int) (tc : Nat) (w : World) (hT : TabAt w) (hL : ∀ k, k < 3 → Asks w (ad k) (l k)) (hK : ∀ k, k < 3 → AsksOk (l k)) (hB : Bys w tb T) :
    Calls Tryd.prog 4 #[.int .u8 (n : Int), .slice (ad 0) (l 0).length (cap 0), .slice (ad 1) (l 1).length (cap 1), .slice (ad 2) (l 2).length (cap 2), .slice tb T.length tc] w fun e w' => e = .returned (.bool true) ∧ Below w.heap.size w w' := by
  have mixed : Tryd.prog.follows .mixedOrders = true := by kernel_rfl
  have haw := awake_any w hT
  by_cases hl0 : (l 0).length ≤ 40
  · have g0 : ¬ ((l 0).length : Int) > 40 := by omega
    by_cases hl1 : (l 1).length ≤ 40
    · have g1 : ¬ ((l 1).length : Int) > 40 := by omega
      by_cases hl2 : (l 2).length ≤ 40
      · have g2 : ¬ ((l 2).length : Int) > 40 := by omega
        by_cases hl3 : T.length ≤ 200
        · have g3 : ¬ (T.length : Int) > 200 := by omega
          have HL := Lib.hid hL
          have HK := Lib.hid hK
          have HT := Lib.hid hT
          have HB := Lib.hid hB
          have HL40 : Hid (∀ k, k < 3 → (l k).length ≤ 40) := by
            intro k hk
            match k, hk with
            | 0, _ => exact hl0
            | 1, _ => exact hl1
            | 2, _ => exact hl2
          clear hL hT hK hB
          go_enter Tryd.func4, Tryd.ntmps4
          go_wp2_with fail
          refine haw.mono ?_
          rintro e w1 ⟨rfl, b1⟩
          have hm1 := memory_any n hn8 b1
          clear haw b1
          go_wp2_with fail
          refine hm1.mono ?_
          rintro e w2 ⟨⟨b, c, r, rfl, hH, hb, hc, hr⟩, b12⟩
          clear hm1 b12 hb hc hr
          obtain ⟨m0, hm0⟩ : ∃ m, m = M.new (1 + n % 60) := ⟨_, rfl⟩
          rw [← hm0] at hH
          have HM0 := Lib.hid hm0
          obtain ⟨w3, h3⟩ : ∃ W, W = w2.alloc (.cells #[.slice (ad 0) (l 0).length (cap 0), .slice (ad 1) (l 1).length (cap 1), .slice (ad 2) (l 2).length (cap 2)] 48) := ⟨_, rfl⟩
          obtain ⟨w4, h4⟩ : ∃ W, W = w3.alloc (.cells #[.pointer none, .pointer none, .pointer none] 49) := ⟨_, rfl⟩
          obtain ⟨w5, h5⟩ : ∃ W, W = w4.alloc (.cells #[.int .i64 0, .int .i64 0, .int .i64 0, .int .i64 0, .int .i64 0, .int .i64 0, .int .i64 0, .int .i64 0, .int .i64 0, .int .i64 0, .int .i64 0, .int .i64 0, .int .i64 0, .int .i64 0, .int .i64 0] 50) := ⟨_, rfl⟩
          have hTM := tm_start hH ad cap l (fun _ => 0) h3 h4 h5
          have z3 : w2.heap.size + 1 = w3.heap.size := by rw [h3]; simp
          have z4 : w3.heap.size + 1 = w4.heap.size := by rw [h4]; simp
          obtain ⟨qa, hqa⟩ : ∃ q, q = w2.heap.size := ⟨_, rfl⟩
          obtain ⟨qp, hqp⟩ : ∃ q, q = w3.heap.size := ⟨_, rfl⟩
          obtain ⟨qr, hqr⟩ : ∃ q, q = w4.heap.size := ⟨_, rfl⟩
          rw [← hqa, ← hqp, ← hqr] at hTM
          have HTM := Lib.hid hTM
          have HH3 := Lib.hid (⟨h3.symm, h4.symm, h5.symm⟩ : _ ∧ _ ∧ _)
          have HQ3 := Lib.hid (⟨hqa.symm, hqp.symm, hqr.symm, z3, z4⟩ : _ ∧ _ ∧ _ ∧ _ ∧ _)
          clear hH hm0 h3 h4 h5 hTM z3 z4 hqa hqp hqr
          go_wp2_with fail
          rw [HH3.out.1, HH3.out.2.1, HH3.out.2.2, HQ3.out.2.2.2.1, HQ3.out.2.2.2.2, HQ3.out.1, HQ3.out.2.1, HQ3.out.2.2.1]
          go_loopw [16] (fun iv wr => ∃ (i : Nat) (L : List Mach) (lb : Nat → Nat), iv = .int .i64 (i : Int) ∧ i ≤ 3 ∧ Hid (Tm w b c r qa qp qr ad cap l lb 0 m0 L (fun _ => r0) (fun _ => r0) wr ∧ L.length = i)) (fun iv _ => 3 - (intOf iv).toNat)
          case atStart => exact ⟨0, [], _, rfl, by omega, HTM.out, rfl⟩
          case round =>
            obtain ⟨i, L, lb, rfl, hi, hR⟩ := hrel
            clear HTM HH3 HQ3
            by_cases hlt : i < 3
            · have i1 : (i : Int) < 3 := by omega
              have c13 := hR.out.1.sl i hlt
              have hat48 := at_48 qa i hlt
              have hat49 := at_49 qp i hlt
              have hda := does_any (ad i) (l i).length (cap i) wr
              go_wp2_with fail
              refine hda.mono ?_
              rintro e w6 ⟨rfl, h6⟩
              have hnm := newmach_any (b := b) (caps31 wr.heap.size) w6 ⟨_, _, rfl⟩
              have H6 := Lib.hid h6
              clear hda h6
              go_wp2_with fail
              refine hnm.mono ?_
              rintro e w7 ⟨rfl, h7⟩
              obtain ⟨hX, hcell, hfz⟩ := tm_add hR.out.1 (by rw [hR.out.2]; exact hlt) (by rw [hR.out.2]; exact H6.out) h7
              rw [hR.out.2] at hX hcell hfz
              obtain ⟨w8, h8⟩ : ∃ W, W = w7.setCell ⟨qp, i, none⟩ (.pointer (some ⟨w6.heap.size, 0, none⟩)) := ⟨_, rfl⟩
              have hc8 : w8.cell? ⟨qp, i, none⟩ = some (.pointer (some ⟨w6.heap.size, 0, none⟩)) := by rw [h8]; exact set_same hcell
              rw [← h8] at hX
              have HX := Lib.hid hX
              have H8 := Lib.hid h8.symm
              have HLI := Lib.hid hR.out.2
              clear hnm h7 h8 c13 hX hR
              go_wp2_with (first | rw [H8.out] | fail)
              first
                | (go_roundw
                   case rel => exact ⟨i + 1, _, _, by go_num, by omega, HX.out, by simp [HLI.out]⟩
                   case measure => simp [intOf]; omega)
                | (refine ⟨?_, ?measure⟩
                   (repeat apply Exists.intro)
                   refine ⟨?rel, rfl⟩
                   case rel => exact ⟨i + 1, _, _, by go_num, by omega, HX.out, by simp [HLI.out]⟩
                   case measure => simp [intOf]; omega)
            · have i1 : ¬ (i : Int) < 3 := by omega
              have HLN : Hid (L.length = 3) := by have := hR.out.2; unfold Hid; omega
              have HTM := Lib.hid hR.out.1
              have hrn := refnew_any wr (1 + n % 60) (by omega)
              rw [← HM0.out] at hrn
              clear hR
              go_wp2_with fail
              refine hrn.mono ?_
              rintro e w9 ⟨rc, cp, rfl, rA, b9, hrc⟩
              obtain ⟨w10, h10⟩ : ∃ W, W = w9.alloc (.cells #[.slice (some ⟨rc, 0, none⟩) m0.cells.length cp, .int .i64 m0.count, .int .i64 m0.live, .int .i64 m0.stale] 29) := ⟨_, rfl⟩
              have hTU := tu_start HTM.out rA b9 hrc (cp := cp) h10
              obtain ⟨vb, hvb⟩ : ∃ q, q = w9.heap.size := ⟨_, rfl⟩
              rw [← hvb] at hTU
              have HTU := Lib.hid hTU
              have H10 := Lib.hid (⟨h10.symm, hvb.symm⟩ : _ ∧ _)
              unfold M.rv
              clear hrn rA b9 hrc h10 hvb hTU
              go_wp2_with fail
              rw [H10.out.1, H10.out.2]
              clear i1 hlt hi
              go_loopw [18] (fun iv wr => ∃ (j : Nat) (m : M) (L : List Mach) (R : Nat → Rn) (rc cp : Nat), iv = .int .i64 (j : Int) ∧ j ≤ T.length ∧ Hid (Tu w b c r qa qp qr vb ad cap l lb ((j : Int) * 42) m L R R m rc cp wr ∧ L.length = 3)) (fun iv _ => T.length - (intOf iv).toNat)
              case atStart => exact ⟨0, m0, L, _, rc, cp, rfl, by omega, HTU.out, HLN.out⟩
              case round =>
                obtain ⟨j, m, L, R, rc, cp, rfl, hj, hR⟩ := hrel
                clear HTU HTM H10 HLN
                have HA := Lib.hid hR.out.1
                have HLN := Lib.hid hR.out.2
                by_cases hlt : j < T.length
                · have j1 : (j : Int) < (T.length : Int) := by omega
                  obtain ⟨pb, boff, ea, x1, x2, x3⟩ := HB.out.at_ HA.out.tm.team.has.below hlt
                  subst ea
                  obtain ⟨xn, hx⟩ : ∃ xn : Nat, T[j] = (xn : Int) := ⟨(T[j]).toNat, by omega⟩
                  rw [hx] at x1
                  have hxn : (xn : Int) ≤ 255 := by omega
                  obtain ⟨k, hp⟩ : ∃ p, p = xn % 3 := ⟨_, rfl⟩
                  have E : Hid ((xn : Int) % 3 = (k : Int)) := by unfold Hid; omega
                  have hk3 : k < 3 := by omega
                  obtain ⟨x, hxx⟩ : ∃ x, L[k]? = some x := ⟨_, List.getElem?_eq_getElem (by rw [hR.out.2]; exact hk3)⟩
                  have HXX := Lib.hid hxx
                  have hat49 := at_49 qp k hk3
                  have hj200 : j ≤ 200 := by omega
                  clear x2 x3 hx hp hR hxx
                  by_cases hlk : (R k).at_ < (l k).length
                  · go_wp2_with fail
                    rw [E.out]
                    clear x1 E hxn
                    refine FreeV.region_puts (S := QMid (fun W => Tu w b c r qa qp qr vb ad cap l lb (((j : Int) * 42)) m L R R m rc cp W)) (effs := [])
                      (tab := [⟨1, fun _ => [.pointer (some ⟨qr, 0, none⟩), .int .i64 (k : Int)], fun _ => .pointer (some ⟨qr, (k * 5), none⟩), .pure⟩,
                        ⟨3, fun _ => [.pointer (some ⟨qr, (k * 5), none⟩)], fun _ => .int .i64 ((R k).at_ : Int), .read⟩,
                        ⟨5, fun _ => [.pointer (some ⟨qa, 0, none⟩), .int .i64 (k : Int)], fun _ => .pointer (some ⟨qa, k, none⟩), .pure⟩,
                        ⟨6, fun _ => [.pointer (some ⟨qa, k, none⟩)], fun _ => (.slice (ad k) (l k).length (cap k)), .read⟩,
                        ⟨7, fun _ => [(.slice (ad k) (l k).length (cap k))], fun _ => .int .i64 ((l k).length : Int), .pure⟩,
                        ⟨8, fun _ => [.int .i64 ((R k).at_ : Int), .int .i64 ((l k).length : Int)], fun _ => .bool true, .pure⟩])
                      (vs := [([], fun _ => .int .i64 (k : Int)), ([], fun _ => .pointer (some ⟨qr, (k * 5), none⟩)), ([], fun _ => .pointer (some ⟨qr, (k * 5), none⟩)), ([], fun _ => .int .i64 ((R k).at_ : Int)), ([], fun _ => .int .i64 (k : Int)), ([], fun _ => .pointer (some ⟨qa, k, none⟩)), ([], fun _ => (.slice (ad k) (l k).length (cap k))), ([], fun _ => .int .i64 ((l k).length : Int)), ([], fun _ => .bool true)])
                      (by kernel_rfl) ⟨by kernel_rfl, ⟨FreeV.d_at _ rfl rfl (fun _ w => at_50 qr k hk3 w),
                        FreeV.d_load _ rfl rfl (fun β bs w h hd => load_3 (run_cells (h.out.tm.rn k hk3)).1),
                        FreeV.d_at _ rfl rfl (fun _ w => at_48 qa k hk3 w),
                        FreeV.d_load _ rfl rfl (fun β bs w h hd => load_22 (h.out.tm.sl k hk3)),
                        FreeV.d_len _ rfl rfl (fun _ => len_22 _ _ _),
                        FreeV.d_bin _ rfl rfl (fun _ xo yo w => cmp_lss3 xo yo w (by simpa using hlk)),
                        trivial⟩,
                        fun β => by kernel_rfl, fun β => by kernel_rfl, by kernel_rfl, fun β => by kernel_rfl, by kernel_rfl⟩ (HA.out.later ((Below.refl _ _).drew)) (fun β => Free.from_ 91 [.int .i64 (k : Int), .pointer (some ⟨qr, (k * 5), none⟩), .pointer (some ⟨qr, (k * 5), none⟩), .int .i64 ((R k).at_ : Int), .int .i64 (k : Int), .pointer (some ⟨qa, k, none⟩), (.slice (ad k) (l k).length (cap k)), .int .i64 ((l k).length : Int), .bool true]) (fun β => by kernel_rfl) ?_
                    intro β wA hA20
                    have HA0 := Lib.hid hA20.out
                    clear hA20
                    rw [Free.puts_from _ _ _ (Nat.le_of_ble_eq_true rfl)]
                    simp only [List.take_succ_cons, List.take_zero, List.drop_succ_cons, List.drop_zero, List.cons_append, List.nil_append, List.length_cons, List.length_nil, Nat.reduceAdd]
                    obtain ⟨pa, off, ea, hpa, hz⟩ := (HL.out k hk3).at_ HA0.out.tm.team.has.below hlk
                    have hge : (l k)[(R k).at_]? = some (l k)[(R k).at_] := List.getElem?_eq_getElem hlk
                    have hzk := HK.out k hk3 _ (List.getElem_mem hlk)
                    generalize (l k)[(R k).at_] = z at hz hge hzk
                    have HZ := Lib.hid (⟨hz, Nat.lt_of_lt_of_le hpa HA0.out.tm.team.has.below.size, hzk⟩ : AqAt wA pa (off + (R k).at_ * 6) z ∧ pa < wA.heap.size ∧ (0 ≤ z.act ∧ z.act ≤ 255))
                    have HE := Lib.hid hge
                    have HEA := Lib.hid ea
                    have c13 : wA.cell? ⟨qa, k, none⟩ = some (.slice (some ⟨pa, off, none⟩) (l k).length (cap k)) := by rw [← HEA.out]; exact HA0.out.tm.sl k hk3
                    obtain ⟨c0, c1, -, -, -⟩ := run_cells (HA0.out.tm.rn k hk3)
                    have HO : Hid (m.Ok 2305843009213693952) := (HA0.out.tm.team.has.ok.mono (by omega))
                    clear hz hzk hge hpa ea HA
                    go_wp2_with fail
                    refine FreeV.region_puts (S := RMid 14 20 wA rc m z (R k).told) (effs := [14, 20, 21])
                      (tab := [⟨0, fun _ => [.pointer (some ⟨vb, 0, none⟩)], fun _ => (m.rv rc cp), .read⟩,
                        ⟨2, fun _ => [.pointer (some ⟨qa, 0, none⟩), .int .i64 (k : Int)], fun _ => .pointer (some ⟨qa, k, none⟩), .pure⟩,
                        ⟨3, fun _ => [.pointer (some ⟨qa, k, none⟩)], fun _ => (.slice (some ⟨pa, off, none⟩) (l k).length (cap k)), .read⟩,
                        ⟨5, fun _ => [.pointer (some ⟨qr, 0, none⟩), .int .i64 (k : Int)], fun _ => .pointer (some ⟨qr, (k * 5), none⟩), .pure⟩,
                        ⟨7, fun _ => [.pointer (some ⟨qr, (k * 5), none⟩)], fun _ => .int .i64 ((R k).at_ : Int), .read⟩,
                        ⟨8, fun _ => [(.slice (some ⟨pa, off, none⟩) (l k).length (cap k)), .int .i64 ((R k).at_ : Int)], fun _ => .pointer (some ⟨pa, (off + (R k).at_ * 6), none⟩), .pure⟩,
                        ⟨9, fun _ => [.pointer (some ⟨pa, (off + (R k).at_ * 6), none⟩)], fun _ => z.v, .read⟩,
                        ⟨11, fun _ => [.pointer (some ⟨qr, 0, none⟩), .int .i64 (k : Int)], fun _ => .pointer (some ⟨qr, (k * 5), none⟩), .pure⟩,
                        ⟨13, fun _ => [.pointer (some ⟨qr, (k * 5) + 1, none⟩)], fun _ => .int .i64 (R k).told, .read⟩,
                        ⟨14, fun _ => [.func (.func 14) #[] #[], (m.rv rc cp), z.v, .int .i64 (R k).told], fun β => (β 14), .get⟩,
                        ⟨16, fun β => [(β 14)], fun β => (nth 0 (β 14)), .read⟩,
                        ⟨17, fun β => [(β 14)], fun β => (nth 1 (β 14)), .read⟩,
                        ⟨18, fun β => [(β 14)], fun β => (nth 2 (β 14)), .read⟩,
                        ⟨19, fun β => [(β 14)], fun β => (nth 3 (β 14)), .read⟩,
                        ⟨20, fun _ => [], fun β => (β 20), .eff⟩,
                        ⟨21, fun β => [(β 20), (nth 0 (β 14))], fun _ => undef, .put⟩])
                      (vs := [([], fun _ => (m.rv rc cp)), ([], fun _ => .int .i64 (k : Int)), ([], fun _ => .pointer (some ⟨qa, k, none⟩)), ([], fun _ => (.slice (some ⟨pa, off, none⟩) (l k).length (cap k))), ([], fun _ => .int .i64 (k : Int)), ([], fun _ => .pointer (some ⟨qr, (k * 5), none⟩)), ([], fun _ => .pointer (some ⟨qr, (k * 5), none⟩)), ([], fun _ => .int .i64 ((R k).at_ : Int)), ([], fun _ => .pointer (some ⟨pa, (off + (R k).at_ * 6), none⟩)), ([], fun _ => z.v), ([], fun _ => .int .i64 (k : Int)), ([], fun _ => .pointer (some ⟨qr, (k * 5), none⟩)), ([], fun _ => .pointer (some ⟨qr, (k * 5) + 1, none⟩)), ([], fun _ => .int .i64 (R k).told), ([14], fun l => l.headD undef), ([14], fun l => l.headD undef), ([14], fun l => nth 0 (l.headD undef)), ([14], fun l => nth 1 (l.headD undef)), ([14], fun l => nth 2 (l.headD undef)), ([14], fun l => nth 3 (l.headD undef)), ([20], fun l => l.headD undef), ([], fun _ => undef), ([14], fun l => nth 1 (l.headD undef)), ([14], fun l => nth 2 (l.headD undef)), ([14], fun l => nth 3 (l.headD undef))])
                      (by kernel_rfl) ⟨by kernel_rfl, ⟨FreeV.d_load _ rfl rfl (fun β bs w h hd => (HA0.out.var.below (rmid_below h)).load),
                        FreeV.d_at _ rfl rfl (fun _ w => at_48 qa k hk3 w),
                        FreeV.d_load _ rfl rfl (fun β bs w h hd => load_22 (((rmid_below h).cell (p := ⟨qa, k, none⟩) (HA0.out.tm.off qa (by simp)).lt).trans c13)),
                        FreeV.d_at _ rfl rfl (fun _ w => at_50 qr k hk3 w),
                        FreeV.d_load _ rfl rfl (fun β bs w h hd => load_3 (((rmid_below h).cell (p := ⟨qr, k * 5, none⟩) (HA0.out.tm.off qr (by simp)).lt).trans c0)),
                        FreeV.d_at _ rfl rfl (fun _ w => at_22 pa off (l k).length (cap k) (R k).at_ hlk w),
                        FreeV.d_load _ rfl rfl (fun β bs w h hd => load_41 (HZ.out.1.below (rmid_below h) HZ.out.2.1)),
                        FreeV.d_at _ rfl rfl (fun _ w => at_50 qr k hk3 w),
                        FreeV.d_load _ rfl rfl (fun β bs w h hd => load_3 (((rmid_below h).cell (p := ⟨qr, k * 5 + 1, none⟩) (HA0.out.tm.off qr (by simp)).lt).trans c1)),
                        FreeV.d_get3 _ rfl rfl enter_14 0 rfl (fun β bs w h hd => rmid_one (by decide) HA0.out.rat HO.out HZ.out.2.2 h ((hd 2 21 rfl).2 (.inl (by kernel_rfl)))),
                        FreeV.d_extract _ rfl rfl (fun β bs w h hd => rmid_nth h ((hd 0 14 rfl).1 (by kernel_rfl)) (by decide)),
                        FreeV.d_extract _ rfl rfl (fun β bs w h hd => rmid_nth h ((hd 0 14 rfl).1 (by kernel_rfl)) (by decide)),
                        FreeV.d_extract _ rfl rfl (fun β bs w h hd => rmid_nth h ((hd 0 14 rfl).1 (by kernel_rfl)) (by decide)),
                        FreeV.d_extract _ rfl rfl (fun β bs w h hd => rmid_nth h ((hd 0 14 rfl).1 (by kernel_rfl)) (by decide)),
                        FreeV.d_alloc _ rfl rfl 1 rfl (fun β bs w h hd => rmid_alloc (by decide) h ((hd 2 21 rfl).2 (.inl (by kernel_rfl)))),
                        FreeV.d_store _ rfl rfl 2 rfl (fun β bs w h hd => rmid_store h ((hd 0 14 rfl).1 (by kernel_rfl)) ((hd 1 20 rfl).1 (by kernel_rfl))),
                        trivial⟩,
                        fun β => by kernel_rfl, fun β => by kernel_rfl, by kernel_rfl, fun β => by kernel_rfl, by kernel_rfl⟩ rmid_start (fun β => Free.from_ 101 [(m.rv rc cp), .int .i64 (k : Int), .pointer (some ⟨qa, k, none⟩), (.slice (some ⟨pa, off, none⟩) (l k).length (cap k)), .int .i64 (k : Int), .pointer (some ⟨qr, (k * 5), none⟩), .pointer (some ⟨qr, (k * 5), none⟩), .int .i64 ((R k).at_ : Int), .pointer (some ⟨pa, (off + (R k).at_ * 6), none⟩), z.v, .int .i64 (k : Int), .pointer (some ⟨qr, (k * 5), none⟩), .pointer (some ⟨qr, (k * 5) + 1, none⟩), .int .i64 (R k).told, (β 14)] ++ [(100, (β 14)), (116, (nth 0 (β 14))), (117, (nth 1 (β 14))), (118, (nth 2 (β 14))), (119, (nth 3 (β 14))), (20, (β 20)), (21, (nth 1 (β 14))), (22, (nth 2 (β 14))), (23, (nth 3 (β 14)))]) (fun β => by kernel_rfl) ?_
                    intro β w6 h6
                    obtain ⟨c', cp', g, b6, e8, rA, hcc, e14, g1, g2, g3, hgr⟩ := rmid_end h6
                    simp only [e8, e14, T4, nth_40, nth_41, nth_42, nth_43]
                    clear h6 e8 e14
                    rw [FreeX.puts_append, Free.puts_from _ _ _ (Nat.le_of_ble_eq_true rfl)]
                    simp only [List.take_succ_cons, List.take_zero, List.drop_succ_cons, List.drop_zero, List.cons_append, List.nil_append, List.length_cons, List.length_nil, Nat.reduceAdd]
                    unfold Free.puts
                    simp only [List.foldl_cons, List.foldl_nil]
                    have HMN : Hid (mnext (l k) (R k) m = ((R k).next (l k) (z.res (R k).told ((z.q (R k).told).on m).2), ((z.q (R k).told).on m).1)) := mnext_is HE.out m
                    generalize ((z.q (R k).told).on m).1 = m9 at *
                    generalize z.res (R k).told ((z.q (R k).told).on m).2 = x9 at *
                    obtain ⟨y0, y1, y2, y3⟩ := (⟨hgr 0 _ rfl, hgr 1 _ rfl, hgr 2 _ rfl, hgr 3 _ rfl⟩ : _ ∧ _ ∧ _ ∧ _)
                    simp only [Nat.zero_add, Nat.add_zero] at y0 y1 y2 y3
                    obtain ⟨v0, v1, v2, v3⟩ := (HA0.out.var.below b6).cells
                    have vf := (HA0.out.var.below b6).fz
                    obtain ⟨w7, hw7⟩ : ∃ W, W = four w6 vb (.slice (some ⟨c', 0, none⟩) m9.cells.length cp') m9.count m9.live m9.stale := ⟨_, rfl⟩
                    have hA7 := HA0.out.ref b6 rA hcc cp'
                    rw [← hw7] at hA7
                    obtain ⟨r9, hr9⟩ : ∃ r', r' = (R k).next (l k) x9 := ⟨_, rfl⟩
                    rw [← hr9] at HMN
                    have HNX : Hid (∀ W, Below w7.heap.size w7 W → Calls Tryd.prog 15 #[(R k).v, .slice (ad k) (l k).length (cap k), .int .i64 x9.1, .int .i64 x9.2.1, .int .i64 x9.2.2] W fun e w' => e = .returned r9.v ∧ Below W.heap.size W w') := fun W hW => by
                      rw [hr9]
                      have hB := hA7.later hW
                      have hsl : (R k).steps ≤ (l k).length := (hB.tm.lm k x HXX.out).sl
                      exact next_any W (R k) (ad k) (cap k) (l k) x9 ((HL.out k hk3).below hB.tm.team.has.below) hlk (HL40.out k hk3) (Nat.le_trans hsl (HL40.out k hk3))
                    have HA7 := Lib.hid hA7
                    unfold four at hw7
                    have HW7 := Lib.hid hw7.symm
                    clear hA7 hw7 b6 rA hcc hgr c0 c1 c13 g1 g2 g3 hr9 HZ HE HO HA0
                    go_wp2_with (first | rw [HW7.out] | fail)
                    refine FreeV.region_puts (S := NMid 10 w7 qr (k * 5) r9) (effs := [10, 12])
                      (tab := [⟨2, fun _ => [.pointer (some ⟨qr, 0, none⟩), .int .i64 (k : Int)], fun _ => .pointer (some ⟨qr, (k * 5), none⟩), .pure⟩,
                        ⟨3, fun _ => [.pointer (some ⟨qr, (k * 5), none⟩)], fun _ => (R k).v, .read⟩,
                        ⟨5, fun _ => [.pointer (some ⟨qa, 0, none⟩), .int .i64 (k : Int)], fun _ => .pointer (some ⟨qa, k, none⟩), .pure⟩,
                        ⟨6, fun _ => [.pointer (some ⟨qa, k, none⟩)], fun _ => (.slice (ad k) (l k).length (cap k)), .read⟩,
                        ⟨10, fun _ => [.func (.func 15) #[] #[], (R k).v, (.slice (ad k) (l k).length (cap k)), .int .i64 x9.1, .int .i64 x9.2.1, .int .i64 x9.2.2], fun β => (β 10), .get⟩,
                        ⟨11, fun _ => [.pointer (some ⟨qr, 0, none⟩), .int .i64 (k : Int)], fun _ => .pointer (some ⟨qr, (k * 5), none⟩), .pure⟩,
                        ⟨12, fun β => [.pointer (some ⟨qr, (k * 5), none⟩), (β 10)], fun _ => undef, .put⟩])
                      (vs := [([], fun _ => .int .i64 (k : Int)), ([], fun _ => .int .i64 (k : Int)), ([], fun _ => .pointer (some ⟨qr, (k * 5), none⟩)), ([], fun _ => (R k).v), ([], fun _ => .int .i64 (k : Int)), ([], fun _ => .pointer (some ⟨qa, k, none⟩)), ([], fun _ => (.slice (ad k) (l k).length (cap k))), ([], fun _ => .int .i64 x9.1), ([], fun _ => .int .i64 x9.2.1), ([], fun _ => .int .i64 x9.2.2), ([10], fun l => l.headD undef), ([], fun _ => .pointer (some ⟨qr, (k * 5), none⟩)), ([], fun _ => undef)])
                      (by kernel_rfl) ⟨by kernel_rfl, ⟨FreeV.d_at _ rfl rfl (fun _ w => at_50 qr k hk3 w),
                        FreeV.d_load _ rfl rfl (fun β bs w h hd => load_32 (range_but (HA7.out.tm.rn k hk3) ((nmid_below h ((hd 1 12 rfl).2 (.inl (by kernel_rfl)))).block qr (HA7.out.tm.off qr (by simp)).lt))),
                        FreeV.d_at _ rfl rfl (fun _ w => at_48 qa k hk3 w),
                        FreeV.d_load _ rfl rfl (fun β bs w h hd => load_22 (((nmid_below h ((hd 1 12 rfl).2 (.inl (by kernel_rfl)))).cell (p := ⟨qa, k, none⟩) (HA7.out.tm.off qa (by simp)).lt).trans (HA7.out.tm.sl k hk3))),
                        FreeV.d_get5 _ rfl rfl enter_15 0 rfl (fun β bs w h hd => nmid_next HNX.out h ((hd 1 12 rfl).2 (.inl (by kernel_rfl)))),
                        FreeV.d_at _ rfl rfl (fun _ w => at_50 qr k hk3 w),
                        FreeV.d_store _ rfl rfl 1 rfl (fun β bs w h hd => nmid_store (HA7.out.tm.rn k hk3) HA7.out.tm.fr (HA7.out.tm.off qr (by simp)).lt h ((hd 0 10 rfl).1 (by kernel_rfl)) ((hd 1 12 rfl).2 (.inr rfl))),
                        trivial⟩,
                        fun β => by kernel_rfl, fun β => by kernel_rfl, by kernel_rfl, fun β => by kernel_rfl, by kernel_rfl⟩ nmid_start (fun β => Free.from_ 121 [.int .i64 (k : Int), .int .i64 (k : Int), .pointer (some ⟨qr, (k * 5), none⟩), (R k).v, .int .i64 (k : Int), .pointer (some ⟨qa, k, none⟩), (.slice (ad k) (l k).length (cap k)), .int .i64 x9.1, .int .i64 x9.2.1, .int .i64 x9.2.2, (β 10), .pointer (some ⟨qr, (k * 5), none⟩)]) (fun β => by kernel_rfl) ?_
                    intro β w9 h9
                    obtain ⟨W0, hb0, e10, hw9⟩ := nmid_end h9
                    clear h9
                    rw [Free.puts_from _ _ _ (Nat.le_of_ble_eq_true rfl)]
                    simp only [List.take_succ_cons, List.take_zero, List.drop_succ_cons, List.drop_zero, List.cons_append, List.nil_append, List.length_cons, List.length_nil, Nat.reduceAdd]
                    have hA9 := (HA7.out.later hb0).put hk3 r9
                    rw [← hw9] at hA9
                    have HT9 := Lib.hid hA9
                    clear hA9 hw9 hb0 HA7 HNX HW7 HEA y0 y1 y2 y3 v0 v1 v2 v3 vf
                    simp only [e10]
                    clear e10
                    have hc14 : w9.cell? ⟨qp, k, none⟩ = some (.pointer (some ⟨x.xb, 0, none⟩)) := HT9.out.tm.pt k x HXX.out
                    obtain ⟨D, hD⟩ : ∃ D, D = decide ((l k).length ≤ r9.at_) := ⟨_, rfl⟩
                    obtain ⟨R9, hR9⟩ : ∃ f, f = put1 R k r9 := ⟨_, rfl⟩
                    have hRk : R9 k = r9 := by rw [hR9, put1_at]
                    have HD : Hid (decide (((l k).length : Int) ≤ ((R9 k).at_ : Int)) = D) := by
                      rw [hD, hRk]
                      exact decide_eq_decide.2 (by omega)
                    have hst : Calls Tryd.prog 16 #[.pointer (some ⟨x.xb, 0, none⟩)] w9 fun e w' => e = .returned (.bool D) ∧ ∃ x2, Tu w b c r qa qp qr vb ad cap l lb ((((j : Int) + 1) * 42)) m9 (L.set k x2) R9 R9 m9 c' cp' w' ∧ x2.fin = D := by
                      have hA := HT9.out
                      have hxx := HXX.out
                      have ho := hA.tm.off (lb k) (.inr (.inr (.inr ⟨k, by rw [HLN.out]; exact hk3, rfl⟩)))
                      have hox := ho.x k x hxx
                      refine (lstep_any (hA.tm.team.mac k x hxx) (hA.tm.lm k x hxx) HT.out (by omega) (HL.out k hk3) (HK.out k hk3) (HL40.out k hk3) (hA.tm.lc k (by rw [HLN.out]; exact hk3)) ⟨ho.m.1, ho.m.2.1, ho.m.2.2, hox.1, fun e => hox.2 e.symm⟩).mono ?_
                      rintro e w' ⟨x', hx', rfl, hm, hlm, hf, hk, hr⟩
                      rw [HMN.out] at hm hlm hf ⊢
                      have hS := (hA.step hxx hx' hm hlm hk hr).less (show (j : Int) * 42 + 42 ≤ ((j : Int) + 1) * 42 by omega)
                      rw [hR9]
                      exact ⟨by rw [hD], x', hS, by rw [hf, hD]⟩
                    clear HT9 HMN hD hR9 hRk
                    go_wp2_with fail
                    refine hst.mono ?_
                    rintro e wy ⟨rfl, x2, hS, hf2⟩
                    have HS := Lib.hid hS
                    have HF2 := Lib.hid hf2
                    have HX2 : Hid ((L.set k x2)[k]? = some x2) := List.getElem?_set_self (by rw [HLN.out]; exact hk3)
                    clear hst hc14 hS hf2
                    go_wp2_with fail
                    refine FreeV.region_puts (S := QMid (fun W => Tu w b c r qa qp qr vb ad cap l lb ((((j : Int) + 1) * 42)) m9 (L.set k x2) R9 R9 m9 c' cp' W)) (effs := [])
                      (tab := [⟨2, fun _ => [.pointer (some ⟨qr, 0, none⟩), .int .i64 (k : Int)], fun _ => .pointer (some ⟨qr, (k * 5), none⟩), .pure⟩,
                        ⟨4, fun _ => [.pointer (some ⟨qr, (k * 5), none⟩)], fun _ => .int .i64 ((R9 k).at_ : Int), .read⟩,
                        ⟨6, fun _ => [.pointer (some ⟨qa, 0, none⟩), .int .i64 (k : Int)], fun _ => .pointer (some ⟨qa, k, none⟩), .pure⟩,
                        ⟨7, fun _ => [.pointer (some ⟨qa, k, none⟩)], fun _ => (.slice (ad k) (l k).length (cap k)), .read⟩,
                        ⟨8, fun _ => [(.slice (ad k) (l k).length (cap k))], fun _ => .int .i64 ((l k).length : Int), .pure⟩,
                        ⟨9, fun _ => [.int .i64 ((R9 k).at_ : Int), .int .i64 ((l k).length : Int)], fun _ => .bool D, .pure⟩,
                        ⟨10, fun _ => [.bool D, .bool D], fun _ => .bool false, .pure⟩,
                        ⟨13, fun _ => [.func (.func 17) #[] #[], .pointer (some ⟨b, 0, none⟩)], fun _ => .int .i64 m9.count, .ask⟩,
                        ⟨15, fun _ => [.pointer (some ⟨vb, 1, none⟩)], fun _ => .int .i64 m9.count, .read⟩,
                        ⟨16, fun _ => [.int .i64 m9.count, .int .i64 m9.count], fun _ => .bool false, .pure⟩,
                        ⟨20, fun _ => [.func (.func 18) #[] #[], .pointer (some ⟨b, 0, none⟩)], fun _ => .int .i64 m9.live, .ask⟩,
                        ⟨22, fun _ => [.pointer (some ⟨vb, 2, none⟩)], fun _ => .int .i64 m9.live, .read⟩,
                        ⟨23, fun _ => [.int .i64 m9.live, .int .i64 m9.live], fun _ => .bool false, .pure⟩,
                        ⟨27, fun _ => [.func (.func 21) #[] #[], .pointer (some ⟨b, 0, none⟩)], fun _ => .int .i64 m9.stale, .ask⟩,
                        ⟨29, fun _ => [.pointer (some ⟨vb, 3, none⟩)], fun _ => .int .i64 m9.stale, .read⟩,
                        ⟨30, fun _ => [.int .i64 m9.stale, .int .i64 m9.stale], fun _ => .bool false, .pure⟩,
                        ⟨34, fun _ => [.pointer (some ⟨qp, 0, none⟩), .int .i64 (k : Int)], fun _ => .pointer (some ⟨qp, k, none⟩), .pure⟩,
                        ⟨35, fun _ => [.pointer (some ⟨qp, k, none⟩)], fun _ => .pointer (some ⟨x2.xb, 0, none⟩), .read⟩,
                        ⟨36, fun _ => [.func (.func 12) #[] #[], .pointer (some ⟨x2.xb, 0, none⟩)], fun _ => .int .i64 ((R9 k).steps : Int), .ask⟩,
                        ⟨38, fun _ => [.pointer (some ⟨qr, 0, none⟩), .int .i64 (k : Int)], fun _ => .pointer (some ⟨qr, (k * 5), none⟩), .pure⟩,
                        ⟨40, fun _ => [.pointer (some ⟨qr, (k * 5) + 4, none⟩)], fun _ => .int .i64 ((R9 k).steps : Int), .read⟩,
                        ⟨41, fun _ => [.int .i64 ((R9 k).steps : Int), .int .i64 ((R9 k).steps : Int)], fun _ => .bool false, .pure⟩])
                      (vs := [([], fun _ => .bool D), ([], fun _ => .int .i64 (k : Int)), ([], fun _ => .pointer (some ⟨qr, (k * 5), none⟩)), ([], fun _ => .pointer (some ⟨qr, (k * 5), none⟩)), ([], fun _ => .int .i64 ((R9 k).at_ : Int)), ([], fun _ => .int .i64 (k : Int)), ([], fun _ => .pointer (some ⟨qa, k, none⟩)), ([], fun _ => (.slice (ad k) (l k).length (cap k))), ([], fun _ => .int .i64 ((l k).length : Int)), ([], fun _ => .bool D), ([], fun _ => .bool false), ([], fun _ => .bool false), ([], fun _ => .pointer (some ⟨b, 0, none⟩)), ([], fun _ => .int .i64 m9.count), ([], fun _ => .pointer (some ⟨vb, 1, none⟩)), ([], fun _ => .int .i64 m9.count), ([], fun _ => .bool false), ([], fun _ => .bool false), ([], fun _ => .bool false), ([], fun _ => .pointer (some ⟨b, 0, none⟩)), ([], fun _ => .int .i64 m9.live), ([], fun _ => .pointer (some ⟨vb, 2, none⟩)), ([], fun _ => .int .i64 m9.live), ([], fun _ => .bool false), ([], fun _ => .bool false), ([], fun _ => .bool false), ([], fun _ => .pointer (some ⟨b, 0, none⟩)), ([], fun _ => .int .i64 m9.stale), ([], fun _ => .pointer (some ⟨vb, 3, none⟩)), ([], fun _ => .int .i64 m9.stale), ([], fun _ => .bool false), ([], fun _ => .bool false), ([], fun _ => .bool false), ([], fun _ => .int .i64 (k : Int)), ([], fun _ => .pointer (some ⟨qp, k, none⟩)), ([], fun _ => .pointer (some ⟨x2.xb, 0, none⟩)), ([], fun _ => .int .i64 ((R9 k).steps : Int)), ([], fun _ => .int .i64 (k : Int)), ([], fun _ => .pointer (some ⟨qr, (k * 5), none⟩)), ([], fun _ => .pointer (some ⟨qr, (k * 5) + 4, none⟩)), ([], fun _ => .int .i64 ((R9 k).steps : Int)), ([], fun _ => .bool false), ([], fun _ => .bool false)])
                      (by kernel_rfl) ⟨by kernel_rfl, ⟨FreeV.d_at _ rfl rfl (fun _ w => at_50 qr k hk3 w),
                        FreeV.d_load _ rfl rfl (fun β bs w h hd => load_3 (run_cells (h.out.tm.rn k hk3)).1),
                        FreeV.d_at _ rfl rfl (fun _ w => at_48 qa k hk3 w),
                        FreeV.d_load _ rfl rfl (fun β bs w h hd => load_22 (h.out.tm.sl k hk3)),
                        FreeV.d_len _ rfl rfl (fun _ => len_22 _ _ _),
                        FreeV.d_bin _ rfl rfl (fun _ xo yo w => cmp_geq3 xo yo w HD.out),
                        FreeV.d_bin _ rfl rfl (fun _ xo yo w => cmp_neq4 xo yo w (by simp)),
                        FreeV.d_ask1 _ rfl rfl enter_17 (fun β bs w h hd => (count_any _ _ _ _ _ h.out.tm.team.has.at_).mono (fun e w2 ⟨e1, e2⟩ => ⟨e1, e2 ▸ h⟩)),
                        FreeV.d_load _ rfl rfl (fun β bs w h hd => load_3 h.out.var.cells.2.1),
                        FreeV.d_bin _ rfl rfl (fun _ xo yo w => cmp_neq3 xo yo w (by simp)),
                        FreeV.d_ask1 _ rfl rfl enter_18 (fun β bs w h hd => (live_any _ _ _ _ _ h.out.tm.team.has.at_).mono (fun e w2 ⟨e1, e2⟩ => ⟨e1, e2 ▸ h⟩)),
                        FreeV.d_load _ rfl rfl (fun β bs w h hd => load_3 h.out.var.cells.2.2.1),
                        FreeV.d_bin _ rfl rfl (fun _ xo yo w => cmp_neq3 xo yo w (by simp)),
                        FreeV.d_ask1 _ rfl rfl enter_21 (fun β bs w h hd => (stale_any _ _ _ _ _ h.out.tm.team.has.at_).mono (fun e w2 ⟨e1, e2⟩ => ⟨e1, e2 ▸ h⟩)),
                        FreeV.d_load _ rfl rfl (fun β bs w h hd => load_3 h.out.var.cells.2.2.2),
                        FreeV.d_bin _ rfl rfl (fun _ xo yo w => cmp_neq3 xo yo w (by simp)),
                        FreeV.d_at _ rfl rfl (fun _ w => at_49 qp k hk3 w),
                        FreeV.d_load _ rfl rfl (fun β bs w h hd => load_33 (h.out.tm.pt k x2 HX2.out)),
                        FreeV.d_ask1 _ rfl rfl enter_12 (fun β bs w h hd => (tu_steps h.out HX2.out).mono (fun e w2 ⟨e1, e2⟩ => ⟨e1, e2 ▸ h⟩)),
                        FreeV.d_at _ rfl rfl (fun _ w => at_50 qr k hk3 w),
                        FreeV.d_load _ rfl rfl (fun β bs w h hd => load_3 (run_cells (h.out.tm.rn k hk3)).2.2.2.2),
                        FreeV.d_bin _ rfl rfl (fun _ xo yo w => cmp_neq3 xo yo w (by simp)),
                        trivial⟩,
                        fun β => by kernel_rfl, fun β => by kernel_rfl, by kernel_rfl, fun β => by kernel_rfl, by kernel_rfl⟩ (HS.out.later ((Below.refl _ _).drew)) (fun β => Free.from_ 137 [.bool D, .int .i64 (k : Int), .pointer (some ⟨qr, (k * 5), none⟩), .pointer (some ⟨qr, (k * 5), none⟩), .int .i64 ((R9 k).at_ : Int), .int .i64 (k : Int), .pointer (some ⟨qa, k, none⟩), (.slice (ad k) (l k).length (cap k)), .int .i64 ((l k).length : Int), .bool D, .bool false, .bool false, .pointer (some ⟨b, 0, none⟩), .int .i64 m9.count, .pointer (some ⟨vb, 1, none⟩), .int .i64 m9.count, .bool false, .bool false, .bool false, .pointer (some ⟨b, 0, none⟩), .int .i64 m9.live, .pointer (some ⟨vb, 2, none⟩), .int .i64 m9.live, .bool false, .bool false, .bool false, .pointer (some ⟨b, 0, none⟩), .int .i64 m9.stale, .pointer (some ⟨vb, 3, none⟩), .int .i64 m9.stale, .bool false, .bool false, .bool false, .int .i64 (k : Int), .pointer (some ⟨qp, k, none⟩), .pointer (some ⟨x2.xb, 0, none⟩), .int .i64 ((R9 k).steps : Int), .int .i64 (k : Int), .pointer (some ⟨qr, (k * 5), none⟩), .pointer (some ⟨qr, (k * 5) + 4, none⟩), .int .i64 ((R9 k).steps : Int), .bool false, .bool false]) (fun β => by kernel_rfl) ?_
                    intro β wz hz
                    have HQ := Lib.hid hz.out
                    clear hz
                    rw [Free.puts_from _ _ _ (Nat.le_of_ble_eq_true rfl)]
                    simp only [List.take_succ_cons, List.take_zero, List.drop_succ_cons, List.drop_zero, List.cons_append, List.nil_append, List.length_cons, List.length_nil, Nat.reduceAdd]
                    clear HS
                    cases D with
                    | true =>
                      have hc15 : wz.cell? ⟨qp, k, none⟩ = some (.pointer (some ⟨x2.xb, 0, none⟩)) := HQ.out.tm.pt k x2 HX2.out
                      have hty : Calls Tryd.prog 19 #[.pointer (some ⟨x2.xb, 0, none⟩)] wz fun e w' => e = .returned (.tuple #[(R9 k).v, .bool true]) ∧ Below wz.heap.size wz w' := told_yes (R9 k) (fun w1 hb => by
                        have hB := HQ.out.later hb
                        have := out_any (hB.tm.team.mac k x2 HX2.out)
                        rwa [((hB.tm.lm k x2 HX2.out).fin HF2.out).2] at this)
                      have ev : (R9 k).v = .agg #[.int .i64 ((R9 k).at_ : Int), .int .i64 (R9 k).told, .int .i64 (R9 k).sum, .int .i64 (R9 k).last, .int .i64 ((R9 k).steps : Int)] := rfl
                      rw [ev] at hty
                      clear ev
                      go_wp2_with fail
                      refine hty.mono ?_
                      rintro e wu ⟨rfl, bu⟩
                      obtain ⟨wv, hwv⟩ : ∃ W, W = wu.alloc (.cells #[.int .i64 ((R9 k).at_ : Int), .int .i64 (R9 k).told, .int .i64 (R9 k).sum, .int .i64 (R9 k).last, .int .i64 ((R9 k).steps : Int)] 32) := ⟨_, rfl⟩
                      obtain ⟨ga, hga⟩ : ∃ q, q = wu.heap.size := ⟨_, rfl⟩
                      have HV : Hid (Tu w b c r qa qp qr vb ad cap l lb ((((j : Int) + 1) * 42)) m9 (L.set k x2) R9 R9 m9 c' cp' wv.drew ∧ wv.drew.rangeAt ga 0 (R9 k).row) := by
                        have huv : Below wu.heap.size wu wv := by rw [hwv]; exact (Below.refl _ _).alloc (Nat.le_refl _) _
                        refine ⟨((HQ.out.later bu).later huv).later ((Below.refl _ _).drew), ?_⟩
                        have h3 : wv.rangeAt ga 0 (R9 k).row := by
                          rw [hwv, hga]
                          intro j v hj
                          rw [Nat.zero_add, World.cell?_alloc_new]
                          show (R9 k).row.toArray[j]? = some v
                          rw [List.getElem?_toArray]
                          exact hj
                        exact range_but h3 rfl
                      have HWV := Lib.hid (⟨hwv.symm, hga.symm⟩ : _ ∧ _)
                      clear hty bu hwv hga hc15 HQ
                      go_wp2_with fail
                      rw [HWV.out.1, HWV.out.2]
                      refine FreeV.region_puts (S := QMid (fun W => Tu w b c r qa qp qr vb ad cap l lb ((((j : Int) + 1) * 42)) m9 (L.set k x2) R9 R9 m9 c' cp' W ∧ W.rangeAt ga 0 (R9 k).row)) (effs := [])
                        (tab := [⟨2, fun _ => [.bool true, .bool true], fun _ => .bool false, .pure⟩,
                          ⟨6, fun _ => [.pointer (some ⟨ga, 0, none⟩)], fun _ => (R9 k).v, .read⟩,
                          ⟨8, fun _ => [.pointer (some ⟨qr, 0, none⟩), .int .i64 (k : Int)], fun _ => .pointer (some ⟨qr, (k * 5), none⟩), .pure⟩,
                          ⟨9, fun _ => [.pointer (some ⟨qr, (k * 5), none⟩)], fun _ => (R9 k).v, .read⟩,
                          ⟨10, fun _ => [(R9 k).v, (R9 k).v], fun _ => .bool false, .read⟩])
                        (vs := [([], fun _ => .bool true), ([], fun _ => .bool true), ([], fun _ => .bool false), ([], fun _ => .bool false), ([], fun _ => .bool true), ([], fun _ => .bool true), ([], fun _ => (R9 k).v), ([], fun _ => .int .i64 (k : Int)), ([], fun _ => .pointer (some ⟨qr, (k * 5), none⟩)), ([], fun _ => (R9 k).v), ([], fun _ => .bool false), ([], fun _ => .bool false), ([], fun _ => .bool false)])
                        (by kernel_rfl) ⟨by kernel_rfl, ⟨FreeV.d_bin _ rfl rfl (fun _ xo yo w => cmp_neq4 xo yo w (by simp)),
                          FreeV.d_load _ rfl rfl (fun β bs w h hd => load_32 h.out.2),
                          FreeV.d_at _ rfl rfl (fun _ w => at_50 qr k hk3 w),
                          FreeV.d_load _ rfl rfl (fun β bs w h hd => load_32 (h.out.1.tm.rn k hk3)),
                          FreeV.d_binr _ rfl rfl (fun β bs xo yo w h hd => neq32_any _ ⟨_, _, _, _, _, rfl⟩ xo yo w),
                          trivial⟩,
                          fun β => by kernel_rfl, fun β => by kernel_rfl, by kernel_rfl, fun β => by kernel_rfl, by kernel_rfl⟩ (HV.out) (fun β => Free.from_ 187 [.bool true, .bool true, .bool false, .bool false, .bool true, .bool true, (R9 k).v, .int .i64 (k : Int), .pointer (some ⟨qr, (k * 5), none⟩), (R9 k).v, .bool false, .bool false, .bool false]) (fun β => by kernel_rfl) ?_
                      intro β wq hq
                      have HE := Lib.hid hq.out.1
                      clear hq
                      rw [Free.puts_from _ _ _ (Nat.le_of_ble_eq_true rfl)]
                      simp only [List.take_succ_cons, List.take_zero, List.drop_succ_cons, List.drop_zero, List.cons_append, List.nil_append, List.length_cons, List.length_nil, Nat.reduceAdd]
                      clear HV HWV
                      go_wp2_with fail
                      first
                        | (go_roundw
                           case rel => exact ⟨j + 1, m9, L.set k x2, R9, c', cp', by go_num, by omega, Lib.hid ⟨by rw [show (((j + 1 : Nat) : Int)) = (j : Int) + 1 by omega]; exact HE.out, by rw [List.length_set]; exact HLN.out⟩⟩
                           case measure => simp [intOf]; omega)
                        | (refine ⟨?_, ?measure⟩
                           (repeat apply Exists.intro)
                           refine ⟨?rel, rfl⟩
                           case rel => exact ⟨j + 1, m9, L.set k x2, R9, c', cp', by go_num, by omega, Lib.hid ⟨by rw [show (((j + 1 : Nat) : Int)) = (j : Int) + 1 by omega]; exact HE.out, by rw [List.length_set]; exact HLN.out⟩⟩
                           case measure => simp [intOf]; omega)
                    | false =>
                      have hc15 : wz.cell? ⟨qp, k, none⟩ = some (.pointer (some ⟨x2.xb, 0, none⟩)) := HQ.out.tm.pt k x2 HX2.out
                      have hty : Calls Tryd.prog 19 #[.pointer (some ⟨x2.xb, 0, none⟩)] wz fun e w' => e = .returned (.tuple #[r0.v, .bool false]) ∧ Below wz.heap.size wz w' := told_no (fun w1 hb => by
                        have hB := HQ.out.later hb
                        have := out_any (hB.tm.team.mac k x2 HX2.out)
                        rwa [((hB.tm.lm k x2 HX2.out).run HF2.out).2.2.2.2.2.2] at this)
                      have ev : r0.v = .agg #[.int .i64 0, .int .i64 0, .int .i64 0, .int .i64 0, .int .i64 0] := rfl
                      rw [ev] at hty
                      clear ev
                      go_wp2_with fail
                      refine hty.mono ?_
                      rintro e wu ⟨rfl, bu⟩
                      obtain ⟨wv, hwv⟩ : ∃ W, W = wu.alloc (.cells #[.int .i64 0, .int .i64 0, .int .i64 0, .int .i64 0, .int .i64 0] 32) := ⟨_, rfl⟩
                      obtain ⟨ga, hga⟩ : ∃ q, q = wu.heap.size := ⟨_, rfl⟩
                      have HV : Hid (Tu w b c r qa qp qr vb ad cap l lb ((((j : Int) + 1) * 42)) m9 (L.set k x2) R9 R9 m9 c' cp' wv.drew ∧ wv.drew.rangeAt ga 0 r0.row) := by
                        have huv : Below wu.heap.size wu wv := by rw [hwv]; exact (Below.refl _ _).alloc (Nat.le_refl _) _
                        refine ⟨((HQ.out.later bu).later huv).later ((Below.refl _ _).drew), ?_⟩
                        have h3 : wv.rangeAt ga 0 r0.row := by
                          rw [hwv, hga]
                          intro j v hj
                          rw [Nat.zero_add, World.cell?_alloc_new]
                          show r0.row.toArray[j]? = some v
                          rw [List.getElem?_toArray]
                          exact hj
                        exact range_but h3 rfl
                      have HWV := Lib.hid (⟨hwv.symm, hga.symm⟩ : _ ∧ _)
                      clear hty bu hwv hga hc15 HQ
                      go_wp2_with fail
                      rw [HWV.out.1, HWV.out.2]
                      refine FreeV.region_puts (S := QMid (fun W => Tu w b c r qa qp qr vb ad cap l lb ((((j : Int) + 1) * 42)) m9 (L.set k x2) R9 R9 m9 c' cp' W ∧ W.rangeAt ga 0 r0.row)) (effs := [])
                        (tab := [⟨2, fun _ => [.bool false, .bool false], fun _ => .bool false, .pure⟩])
                        (vs := [([], fun _ => .bool false), ([], fun _ => .bool false), ([], fun _ => .bool false), ([], fun _ => .bool false), ([], fun _ => .bool false), ([], fun _ => .bool false), ([], fun _ => undef), ([], fun _ => undef), ([], fun _ => undef), ([], fun _ => undef), ([], fun _ => undef), ([], fun _ => .bool false), ([], fun _ => .bool false)])
                        (by kernel_rfl) ⟨by kernel_rfl, ⟨FreeV.d_bin _ rfl rfl (fun _ xo yo w => cmp_neq4 xo yo w (by simp)),
                          trivial⟩,
                          fun β => by kernel_rfl, fun β => by kernel_rfl, by kernel_rfl, fun β => by kernel_rfl, by kernel_rfl⟩ (HV.out) (fun β => Free.from_ 187 [.bool false, .bool false, .bool false, .bool false, .bool false, .bool false, undef, undef, undef, undef, undef, .bool false, .bool false]) (fun β => by kernel_rfl) ?_
                      intro β wq hq
                      have HE := Lib.hid hq.out.1
                      clear hq
                      rw [Free.puts_from _ _ _ (Nat.le_of_ble_eq_true rfl)]
                      simp only [List.take_succ_cons, List.take_zero, List.drop_succ_cons, List.drop_zero, List.cons_append, List.nil_append, List.length_cons, List.length_nil, Nat.reduceAdd]
                      clear HV HWV
                      go_wp2_with fail
                      first
                        | (go_roundw
                           case rel => exact ⟨j + 1, m9, L.set k x2, R9, c', cp', by go_num, by omega, Lib.hid ⟨by rw [show (((j + 1 : Nat) : Int)) = (j : Int) + 1 by omega]; exact HE.out, by rw [List.length_set]; exact HLN.out⟩⟩
                           case measure => simp [intOf]; omega)
                        | (refine ⟨?_, ?measure⟩
                           (repeat apply Exists.intro)
                           refine ⟨?rel, rfl⟩
                           case rel => exact ⟨j + 1, m9, L.set k x2, R9, c', cp', by go_num, by omega, Lib.hid ⟨by rw [show (((j + 1 : Nat) : Int)) = (j : Int) + 1 by omega]; exact HE.out, by rw [List.length_set]; exact HLN.out⟩⟩
                           case measure => simp [intOf]; omega)
                  · go_wp2_with fail
                    rw [E.out]
                    clear x1 E hxn
                    refine FreeV.region_puts (S := QMid (fun W => Tu w b c r qa qp qr vb ad cap l lb (((j : Int) * 42)) m L R R m rc cp W)) (effs := [])
                      (tab := [⟨1, fun _ => [.pointer (some ⟨qr, 0, none⟩), .int .i64 (k : Int)], fun _ => .pointer (some ⟨qr, (k * 5), none⟩), .pure⟩,
                        ⟨3, fun _ => [.pointer (some ⟨qr, (k * 5), none⟩)], fun _ => .int .i64 ((R k).at_ : Int), .read⟩,
                        ⟨5, fun _ => [.pointer (some ⟨qa, 0, none⟩), .int .i64 (k : Int)], fun _ => .pointer (some ⟨qa, k, none⟩), .pure⟩,
                        ⟨6, fun _ => [.pointer (some ⟨qa, k, none⟩)], fun _ => (.slice (ad k) (l k).length (cap k)), .read⟩,
                        ⟨7, fun _ => [(.slice (ad k) (l k).length (cap k))], fun _ => .int .i64 ((l k).length : Int), .pure⟩,
                        ⟨8, fun _ => [.int .i64 ((R k).at_ : Int), .int .i64 ((l k).length : Int)], fun _ => .bool false, .pure⟩])
                      (vs := [([], fun _ => .int .i64 (k : Int)), ([], fun _ => .pointer (some ⟨qr, (k * 5), none⟩)), ([], fun _ => .pointer (some ⟨qr, (k * 5), none⟩)), ([], fun _ => .int .i64 ((R k).at_ : Int)), ([], fun _ => .int .i64 (k : Int)), ([], fun _ => .pointer (some ⟨qa, k, none⟩)), ([], fun _ => (.slice (ad k) (l k).length (cap k))), ([], fun _ => .int .i64 ((l k).length : Int)), ([], fun _ => .bool false)])
                      (by kernel_rfl) ⟨by kernel_rfl, ⟨FreeV.d_at _ rfl rfl (fun _ w => at_50 qr k hk3 w),
                        FreeV.d_load _ rfl rfl (fun β bs w h hd => load_3 (run_cells (h.out.tm.rn k hk3)).1),
                        FreeV.d_at _ rfl rfl (fun _ w => at_48 qa k hk3 w),
                        FreeV.d_load _ rfl rfl (fun β bs w h hd => load_22 (h.out.tm.sl k hk3)),
                        FreeV.d_len _ rfl rfl (fun _ => len_22 _ _ _),
                        FreeV.d_bin _ rfl rfl (fun _ xo yo w => cmp_lss3 xo yo w (by simpa using hlk)),
                        trivial⟩,
                        fun β => by kernel_rfl, fun β => by kernel_rfl, by kernel_rfl, fun β => by kernel_rfl, by kernel_rfl⟩ (HA.out.later ((Below.refl _ _).drew)) (fun β => Free.from_ 91 [.int .i64 (k : Int), .pointer (some ⟨qr, (k * 5), none⟩), .pointer (some ⟨qr, (k * 5), none⟩), .int .i64 ((R k).at_ : Int), .int .i64 (k : Int), .pointer (some ⟨qa, k, none⟩), (.slice (ad k) (l k).length (cap k)), .int .i64 ((l k).length : Int), .bool false]) (fun β => by kernel_rfl) ?_
                    intro β wA hA20
                    have HA0 := Lib.hid hA20.out
                    clear hA20
                    rw [Free.puts_from _ _ _ (Nat.le_of_ble_eq_true rfl)]
                    simp only [List.take_succ_cons, List.take_zero, List.drop_succ_cons, List.drop_zero, List.cons_append, List.nil_append, List.length_cons, List.length_nil, Nat.reduceAdd]
                    have hle : (l k).length ≤ (R k).at_ := by omega
                    obtain ⟨m9, hm9⟩ : ∃ q, q = m := ⟨_, rfl⟩
                    obtain ⟨r9, hr9⟩ : ∃ q, q = R k := ⟨_, rfl⟩
                    have HT9 : Hid (Tu w b c r qa qp qr vb ad cap l lb (((j : Int) * 42)) m L R (put1 R k r9) m9 rc cp wA) := by
                      rw [hm9, hr9, put1_self]
                      exact HA0.out
                    have HMN : Hid (mnext (l k) (R k) m = (r9, m9)) := by
                      rw [hm9, hr9]
                      exact mnext_end hle m
                    clear hm9 hr9 HA HA0 hle
                    have hc14 : wA.cell? ⟨qp, k, none⟩ = some (.pointer (some ⟨x.xb, 0, none⟩)) := HT9.out.tm.pt k x HXX.out
                    obtain ⟨D, hD⟩ : ∃ D, D = decide ((l k).length ≤ r9.at_) := ⟨_, rfl⟩
                    obtain ⟨R9, hR9⟩ : ∃ f, f = put1 R k r9 := ⟨_, rfl⟩
                    have hRk : R9 k = r9 := by rw [hR9, put1_at]
                    have HD : Hid (decide (((l k).length : Int) ≤ ((R9 k).at_ : Int)) = D) := by
                      rw [hD, hRk]
                      exact decide_eq_decide.2 (by omega)
                    have hst : Calls Tryd.prog 16 #[.pointer (some ⟨x.xb, 0, none⟩)] wA fun e w' => e = .returned (.bool D) ∧ ∃ x2, Tu w b c r qa qp qr vb ad cap l lb ((((j : Int) + 1) * 42)) m9 (L.set k x2) R9 R9 m9 rc cp w' ∧ x2.fin = D := by
                      have hA := HT9.out
                      have hxx := HXX.out
                      have ho := hA.tm.off (lb k) (.inr (.inr (.inr ⟨k, by rw [HLN.out]; exact hk3, rfl⟩)))
                      have hox := ho.x k x hxx
                      refine (lstep_any (hA.tm.team.mac k x hxx) (hA.tm.lm k x hxx) HT.out (by omega) (HL.out k hk3) (HK.out k hk3) (HL40.out k hk3) (hA.tm.lc k (by rw [HLN.out]; exact hk3)) ⟨ho.m.1, ho.m.2.1, ho.m.2.2, hox.1, fun e => hox.2 e.symm⟩).mono ?_
                      rintro e w' ⟨x', hx', rfl, hm, hlm, hf, hk, hr⟩
                      rw [HMN.out] at hm hlm hf ⊢
                      have hS := (hA.step hxx hx' hm hlm hk hr).less (show (j : Int) * 42 + 42 ≤ ((j : Int) + 1) * 42 by omega)
                      rw [hR9]
                      exact ⟨by rw [hD], x', hS, by rw [hf, hD]⟩
                    clear HT9 HMN hD hR9 hRk
                    go_wp2_with fail
                    refine hst.mono ?_
                    rintro e wy ⟨rfl, x2, hS, hf2⟩
                    have HS := Lib.hid hS
                    have HF2 := Lib.hid hf2
                    have HX2 : Hid ((L.set k x2)[k]? = some x2) := List.getElem?_set_self (by rw [HLN.out]; exact hk3)
                    clear hst hc14 hS hf2
                    go_wp2_with fail
                    refine FreeV.region_puts (S := QMid (fun W => Tu w b c r qa qp qr vb ad cap l lb ((((j : Int) + 1) * 42)) m9 (L.set k x2) R9 R9 m9 rc cp W)) (effs := [])
                      (tab := [⟨2, fun _ => [.pointer (some ⟨qr, 0, none⟩), .int .i64 (k : Int)], fun _ => .pointer (some ⟨qr, (k * 5), none⟩), .pure⟩,
                        ⟨4, fun _ => [.pointer (some ⟨qr, (k * 5), none⟩)], fun _ => .int .i64 ((R9 k).at_ : Int), .read⟩,
                        ⟨6, fun _ => [.pointer (some ⟨qa, 0, none⟩), .int .i64 (k : Int)], fun _ => .pointer (some ⟨qa, k, none⟩), .pure⟩,
                        ⟨7, fun _ => [.pointer (some ⟨qa, k, none⟩)], fun _ => (.slice (ad k) (l k).length (cap k)), .read⟩,
                        ⟨8, fun _ => [(.slice (ad k) (l k).length (cap k))], fun _ => .int .i64 ((l k).length : Int), .pure⟩,
                        ⟨9, fun _ => [.int .i64 ((R9 k).at_ : Int), .int .i64 ((l k).length : Int)], fun _ => .bool D, .pure⟩,
                        ⟨10, fun _ => [.bool D, .bool D], fun _ => .bool false, .pure⟩,
                        ⟨13, fun _ => [.func (.func 17) #[] #[], .pointer (some ⟨b, 0, none⟩)], fun _ => .int .i64 m9.count, .ask⟩,
                        ⟨15, fun _ => [.pointer (some ⟨vb, 1, none⟩)], fun _ => .int .i64 m9.count, .read⟩,
                        ⟨16, fun _ => [.int .i64 m9.count, .int .i64 m9.count], fun _ => .bool false, .pure⟩,
                        ⟨20, fun _ => [.func (.func 18) #[] #[], .pointer (some ⟨b, 0, none⟩)], fun _ => .int .i64 m9.live, .ask⟩,
                        ⟨22, fun _ => [.pointer (some ⟨vb, 2, none⟩)], fun _ => .int .i64 m9.live, .read⟩,
                        ⟨23, fun _ => [.int .i64 m9.live, .int .i64 m9.live], fun _ => .bool false, .pure⟩,
                        ⟨27, fun _ => [.func (.func 21) #[] #[], .pointer (some ⟨b, 0, none⟩)], fun _ => .int .i64 m9.stale, .ask⟩,
                        ⟨29, fun _ => [.pointer (some ⟨vb, 3, none⟩)], fun _ => .int .i64 m9.stale, .read⟩,
                        ⟨30, fun _ => [.int .i64 m9.stale, .int .i64 m9.stale], fun _ => .bool false, .pure⟩,
                        ⟨34, fun _ => [.pointer (some ⟨qp, 0, none⟩), .int .i64 (k : Int)], fun _ => .pointer (some ⟨qp, k, none⟩), .pure⟩,
                        ⟨35, fun _ => [.pointer (some ⟨qp, k, none⟩)], fun _ => .pointer (some ⟨x2.xb, 0, none⟩), .read⟩,
                        ⟨36, fun _ => [.func (.func 12) #[] #[], .pointer (some ⟨x2.xb, 0, none⟩)], fun _ => .int .i64 ((R9 k).steps : Int), .ask⟩,
                        ⟨38, fun _ => [.pointer (some ⟨qr, 0, none⟩), .int .i64 (k : Int)], fun _ => .pointer (some ⟨qr, (k * 5), none⟩), .pure⟩,
                        ⟨40, fun _ => [.pointer (some ⟨qr, (k * 5) + 4, none⟩)], fun _ => .int .i64 ((R9 k).steps : Int), .read⟩,
                        ⟨41, fun _ => [.int .i64 ((R9 k).steps : Int), .int .i64 ((R9 k).steps : Int)], fun _ => .bool false, .pure⟩])
                      (vs := [([], fun _ => .bool D), ([], fun _ => .int .i64 (k : Int)), ([], fun _ => .pointer (some ⟨qr, (k * 5), none⟩)), ([], fun _ => .pointer (some ⟨qr, (k * 5), none⟩)), ([], fun _ => .int .i64 ((R9 k).at_ : Int)), ([], fun _ => .int .i64 (k : Int)), ([], fun _ => .pointer (some ⟨qa, k, none⟩)), ([], fun _ => (.slice (ad k) (l k).length (cap k))), ([], fun _ => .int .i64 ((l k).length : Int)), ([], fun _ => .bool D), ([], fun _ => .bool false), ([], fun _ => .bool false), ([], fun _ => .pointer (some ⟨b, 0, none⟩)), ([], fun _ => .int .i64 m9.count), ([], fun _ => .pointer (some ⟨vb, 1, none⟩)), ([], fun _ => .int .i64 m9.count), ([], fun _ => .bool false), ([], fun _ => .bool false), ([], fun _ => .bool false), ([], fun _ => .pointer (some ⟨b, 0, none⟩)), ([], fun _ => .int .i64 m9.live), ([], fun _ => .pointer (some ⟨vb, 2, none⟩)), ([], fun _ => .int .i64 m9.live), ([], fun _ => .bool false), ([], fun _ => .bool false), ([], fun _ => .bool false), ([], fun _ => .pointer (some ⟨b, 0, none⟩)), ([], fun _ => .int .i64 m9.stale), ([], fun _ => .pointer (some ⟨vb, 3, none⟩)), ([], fun _ => .int .i64 m9.stale), ([], fun _ => .bool false), ([], fun _ => .bool false), ([], fun _ => .bool false), ([], fun _ => .int .i64 (k : Int)), ([], fun _ => .pointer (some ⟨qp, k, none⟩)), ([], fun _ => .pointer (some ⟨x2.xb, 0, none⟩)), ([], fun _ => .int .i64 ((R9 k).steps : Int)), ([], fun _ => .int .i64 (k : Int)), ([], fun _ => .pointer (some ⟨qr, (k * 5), none⟩)), ([], fun _ => .pointer (some ⟨qr, (k * 5) + 4, none⟩)), ([], fun _ => .int .i64 ((R9 k).steps : Int)), ([], fun _ => .bool false), ([], fun _ => .bool false)])
                      (by kernel_rfl) ⟨by kernel_rfl, ⟨FreeV.d_at _ rfl rfl (fun _ w => at_50 qr k hk3 w),
                        FreeV.d_load _ rfl rfl (fun β bs w h hd => load_3 (run_cells (h.out.tm.rn k hk3)).1),
                        FreeV.d_at _ rfl rfl (fun _ w => at_48 qa k hk3 w),
                        FreeV.d_load _ rfl rfl (fun β bs w h hd => load_22 (h.out.tm.sl k hk3)),
                        FreeV.d_len _ rfl rfl (fun _ => len_22 _ _ _),
                        FreeV.d_bin _ rfl rfl (fun _ xo yo w => cmp_geq3 xo yo w HD.out),
                        FreeV.d_bin _ rfl rfl (fun _ xo yo w => cmp_neq4 xo yo w (by simp)),
                        FreeV.d_ask1 _ rfl rfl enter_17 (fun β bs w h hd => (count_any _ _ _ _ _ h.out.tm.team.has.at_).mono (fun e w2 ⟨e1, e2⟩ => ⟨e1, e2 ▸ h⟩)),
                        FreeV.d_load _ rfl rfl (fun β bs w h hd => load_3 h.out.var.cells.2.1),
                        FreeV.d_bin _ rfl rfl (fun _ xo yo w => cmp_neq3 xo yo w (by simp)),
                        FreeV.d_ask1 _ rfl rfl enter_18 (fun β bs w h hd => (live_any _ _ _ _ _ h.out.tm.team.has.at_).mono (fun e w2 ⟨e1, e2⟩ => ⟨e1, e2 ▸ h⟩)),
                        FreeV.d_load _ rfl rfl (fun β bs w h hd => load_3 h.out.var.cells.2.2.1),
                        FreeV.d_bin _ rfl rfl (fun _ xo yo w => cmp_neq3 xo yo w (by simp)),
                        FreeV.d_ask1 _ rfl rfl enter_21 (fun β bs w h hd => (stale_any _ _ _ _ _ h.out.tm.team.has.at_).mono (fun e w2 ⟨e1, e2⟩ => ⟨e1, e2 ▸ h⟩)),
                        FreeV.d_load _ rfl rfl (fun β bs w h hd => load_3 h.out.var.cells.2.2.2),
                        FreeV.d_bin _ rfl rfl (fun _ xo yo w => cmp_neq3 xo yo w (by simp)),
                        FreeV.d_at _ rfl rfl (fun _ w => at_49 qp k hk3 w),
                        FreeV.d_load _ rfl rfl (fun β bs w h hd => load_33 (h.out.tm.pt k x2 HX2.out)),
                        FreeV.d_ask1 _ rfl rfl enter_12 (fun β bs w h hd => (tu_steps h.out HX2.out).mono (fun e w2 ⟨e1, e2⟩ => ⟨e1, e2 ▸ h⟩)),
                        FreeV.d_at _ rfl rfl (fun _ w => at_50 qr k hk3 w),
                        FreeV.d_load _ rfl rfl (fun β bs w h hd => load_3 (run_cells (h.out.tm.rn k hk3)).2.2.2.2),
                        FreeV.d_bin _ rfl rfl (fun _ xo yo w => cmp_neq3 xo yo w (by simp)),
                        trivial⟩,
                        fun β => by kernel_rfl, fun β => by kernel_rfl, by kernel_rfl, fun β => by kernel_rfl, by kernel_rfl⟩ (HS.out.later ((Below.refl _ _).drew)) (fun β => Free.from_ 137 [.bool D, .int .i64 (k : Int), .pointer (some ⟨qr, (k * 5), none⟩), .pointer (some ⟨qr, (k * 5), none⟩), .int .i64 ((R9 k).at_ : Int), .int .i64 (k : Int), .pointer (some ⟨qa, k, none⟩), (.slice (ad k) (l k).length (cap k)), .int .i64 ((l k).length : Int), .bool D, .bool false, .bool false, .pointer (some ⟨b, 0, none⟩), .int .i64 m9.count, .pointer (some ⟨vb, 1, none⟩), .int .i64 m9.count, .bool false, .bool false, .bool false, .pointer (some ⟨b, 0, none⟩), .int .i64 m9.live, .pointer (some ⟨vb, 2, none⟩), .int .i64 m9.live, .bool false, .bool false, .bool false, .pointer (some ⟨b, 0, none⟩), .int .i64 m9.stale, .pointer (some ⟨vb, 3, none⟩), .int .i64 m9.stale, .bool false, .bool false, .bool false, .int .i64 (k : Int), .pointer (some ⟨qp, k, none⟩), .pointer (some ⟨x2.xb, 0, none⟩), .int .i64 ((R9 k).steps : Int), .int .i64 (k : Int), .pointer (some ⟨qr, (k * 5), none⟩), .pointer (some ⟨qr, (k * 5) + 4, none⟩), .int .i64 ((R9 k).steps : Int), .bool false, .bool false]) (fun β => by kernel_rfl) ?_
                    intro β wz hz
                    have HQ := Lib.hid hz.out
                    clear hz
                    rw [Free.puts_from _ _ _ (Nat.le_of_ble_eq_true rfl)]
                    simp only [List.take_succ_cons, List.take_zero, List.drop_succ_cons, List.drop_zero, List.cons_append, List.nil_append, List.length_cons, List.length_nil, Nat.reduceAdd]
                    clear HS
                    cases D with
                    | true =>
                      have hc15 : wz.cell? ⟨qp, k, none⟩ = some (.pointer (some ⟨x2.xb, 0, none⟩)) := HQ.out.tm.pt k x2 HX2.out
                      have hty : Calls Tryd.prog 19 #[.pointer (some ⟨x2.xb, 0, none⟩)] wz fun e w' => e = .returned (.tuple #[(R9 k).v, .bool true]) ∧ Below wz.heap.size wz w' := told_yes (R9 k) (fun w1 hb => by
                        have hB := HQ.out.later hb
                        have := out_any (hB.tm.team.mac k x2 HX2.out)
                        rwa [((hB.tm.lm k x2 HX2.out).fin HF2.out).2] at this)
                      have ev : (R9 k).v = .agg #[.int .i64 ((R9 k).at_ : Int), .int .i64 (R9 k).told, .int .i64 (R9 k).sum, .int .i64 (R9 k).last, .int .i64 ((R9 k).steps : Int)] := rfl
                      rw [ev] at hty
                      clear ev
                      go_wp2_with fail
                      refine hty.mono ?_
                      rintro e wu ⟨rfl, bu⟩
                      obtain ⟨wv, hwv⟩ : ∃ W, W = wu.alloc (.cells #[.int .i64 ((R9 k).at_ : Int), .int .i64 (R9 k).told, .int .i64 (R9 k).sum, .int .i64 (R9 k).last, .int .i64 ((R9 k).steps : Int)] 32) := ⟨_, rfl⟩
                      obtain ⟨ga, hga⟩ : ∃ q, q = wu.heap.size := ⟨_, rfl⟩
                      have HV : Hid (Tu w b c r qa qp qr vb ad cap l lb ((((j : Int) + 1) * 42)) m9 (L.set k x2) R9 R9 m9 rc cp wv.drew ∧ wv.drew.rangeAt ga 0 (R9 k).row) := by
                        have huv : Below wu.heap.size wu wv := by rw [hwv]; exact (Below.refl _ _).alloc (Nat.le_refl _) _
                        refine ⟨((HQ.out.later bu).later huv).later ((Below.refl _ _).drew), ?_⟩
                        have h3 : wv.rangeAt ga 0 (R9 k).row := by
                          rw [hwv, hga]
                          intro j v hj
                          rw [Nat.zero_add, World.cell?_alloc_new]
                          show (R9 k).row.toArray[j]? = some v
                          rw [List.getElem?_toArray]
                          exact hj
                        exact range_but h3 rfl
                      have HWV := Lib.hid (⟨hwv.symm, hga.symm⟩ : _ ∧ _)
                      clear hty bu hwv hga hc15 HQ
                      go_wp2_with fail
                      rw [HWV.out.1, HWV.out.2]
                      refine FreeV.region_puts (S := QMid (fun W => Tu w b c r qa qp qr vb ad cap l lb ((((j : Int) + 1) * 42)) m9 (L.set k x2) R9 R9 m9 rc cp W ∧ W.rangeAt ga 0 (R9 k).row)) (effs := [])
                        (tab := [⟨2, fun _ => [.bool true, .bool true], fun _ => .bool false, .pure⟩,
                          ⟨6, fun _ => [.pointer (some ⟨ga, 0, none⟩)], fun _ => (R9 k).v, .read⟩,
                          ⟨8, fun _ => [.pointer (some ⟨qr, 0, none⟩), .int .i64 (k : Int)], fun _ => .pointer (some ⟨qr, (k * 5), none⟩), .pure⟩,
                          ⟨9, fun _ => [.pointer (some ⟨qr, (k * 5), none⟩)], fun _ => (R9 k).v, .read⟩,
                          ⟨10, fun _ => [(R9 k).v, (R9 k).v], fun _ => .bool false, .read⟩])
                        (vs := [([], fun _ => .bool true), ([], fun _ => .bool true), ([], fun _ => .bool false), ([], fun _ => .bool false), ([], fun _ => .bool true), ([], fun _ => .bool true), ([], fun _ => (R9 k).v), ([], fun _ => .int .i64 (k : Int)), ([], fun _ => .pointer (some ⟨qr, (k * 5), none⟩)), ([], fun _ => (R9 k).v), ([], fun _ => .bool false), ([], fun _ => .bool false), ([], fun _ => .bool false)])
                        (by kernel_rfl) ⟨by kernel_rfl, ⟨FreeV.d_bin _ rfl rfl (fun _ xo yo w => cmp_neq4 xo yo w (by simp)),
                          FreeV.d_load _ rfl rfl (fun β bs w h hd => load_32 h.out.2),
                          FreeV.d_at _ rfl rfl (fun _ w => at_50 qr k hk3 w),
                          FreeV.d_load _ rfl rfl (fun β bs w h hd => load_32 (h.out.1.tm.rn k hk3)),
                          FreeV.d_binr _ rfl rfl (fun β bs xo yo w h hd => neq32_any _ ⟨_, _, _, _, _, rfl⟩ xo yo w),
                          trivial⟩,
                          fun β => by kernel_rfl, fun β => by kernel_rfl, by kernel_rfl, fun β => by kernel_rfl, by kernel_rfl⟩ (HV.out) (fun β => Free.from_ 187 [.bool true, .bool true, .bool false, .bool false, .bool true, .bool true, (R9 k).v, .int .i64 (k : Int), .pointer (some ⟨qr, (k * 5), none⟩), (R9 k).v, .bool false, .bool false, .bool false]) (fun β => by kernel_rfl) ?_
                      intro β wq hq
                      have HE := Lib.hid hq.out.1
                      clear hq
                      rw [Free.puts_from _ _ _ (Nat.le_of_ble_eq_true rfl)]
                      simp only [List.take_succ_cons, List.take_zero, List.drop_succ_cons, List.drop_zero, List.cons_append, List.nil_append, List.length_cons, List.length_nil, Nat.reduceAdd]
                      clear HV HWV
                      go_wp2_with fail
                      first
                        | (go_roundw
                           case rel => exact ⟨j + 1, m9, L.set k x2, R9, rc, cp, by go_num, by omega, Lib.hid ⟨by rw [show (((j + 1 : Nat) : Int)) = (j : Int) + 1 by omega]; exact HE.out, by rw [List.length_set]; exact HLN.out⟩⟩
                           case measure => simp [intOf]; omega)
                        | (refine ⟨?_, ?measure⟩
                           (repeat apply Exists.intro)
                           refine ⟨?rel, rfl⟩
                           case rel => exact ⟨j + 1, m9, L.set k x2, R9, rc, cp, by go_num, by omega, Lib.hid ⟨by rw [show (((j + 1 : Nat) : Int)) = (j : Int) + 1 by omega]; exact HE.out, by rw [List.length_set]; exact HLN.out⟩⟩
                           case measure => simp [intOf]; omega)
                    | false =>
                      have hc15 : wz.cell? ⟨qp, k, none⟩ = some (.pointer (some ⟨x2.xb, 0, none⟩)) := HQ.out.tm.pt k x2 HX2.out
                      have hty : Calls Tryd.prog 19 #[.pointer (some ⟨x2.xb, 0, none⟩)] wz fun e w' => e = .returned (.tuple #[r0.v, .bool false]) ∧ Below wz.heap.size wz w' := told_no (fun w1 hb => by
                        have hB := HQ.out.later hb
                        have := out_any (hB.tm.team.mac k x2 HX2.out)
                        rwa [((hB.tm.lm k x2 HX2.out).run HF2.out).2.2.2.2.2.2] at this)
                      have ev : r0.v = .agg #[.int .i64 0, .int .i64 0, .int .i64 0, .int .i64 0, .int .i64 0] := rfl
                      rw [ev] at hty
                      clear ev
                      go_wp2_with fail
                      refine hty.mono ?_
                      rintro e wu ⟨rfl, bu⟩
                      obtain ⟨wv, hwv⟩ : ∃ W, W = wu.alloc (.cells #[.int .i64 0, .int .i64 0, .int .i64 0, .int .i64 0, .int .i64 0] 32) := ⟨_, rfl⟩
                      obtain ⟨ga, hga⟩ : ∃ q, q = wu.heap.size := ⟨_, rfl⟩
                      have HV : Hid (Tu w b c r qa qp qr vb ad cap l lb ((((j : Int) + 1) * 42)) m9 (L.set k x2) R9 R9 m9 rc cp wv.drew ∧ wv.drew.rangeAt ga 0 r0.row) := by
                        have huv : Below wu.heap.size wu wv := by rw [hwv]; exact (Below.refl _ _).alloc (Nat.le_refl _) _
                        refine ⟨((HQ.out.later bu).later huv).later ((Below.refl _ _).drew), ?_⟩
                        have h3 : wv.rangeAt ga 0 r0.row := by
                          rw [hwv, hga]
                          intro j v hj
                          rw [Nat.zero_add, World.cell?_alloc_new]
                          show r0.row.toArray[j]? = some v
                          rw [List.getElem?_toArray]
                          exact hj
                        exact range_but h3 rfl
                      have HWV := Lib.hid (⟨hwv.symm, hga.symm⟩ : _ ∧ _)
                      clear hty bu hwv hga hc15 HQ
                      go_wp2_with fail
                      rw [HWV.out.1, HWV.out.2]
                      refine FreeV.region_puts (S := QMid (fun W => Tu w b c r qa qp qr vb ad cap l lb ((((j : Int) + 1) * 42)) m9 (L.set k x2) R9 R9 m9 rc cp W ∧ W.rangeAt ga 0 r0.row)) (effs := [])
                        (tab := [⟨2, fun _ => [.bool false, .bool false], fun _ => .bool false, .pure⟩])
                        (vs := [([], fun _ => .bool false), ([], fun _ => .bool false), ([], fun _ => .bool false), ([], fun _ => .bool false), ([], fun _ => .bool false), ([], fun _ => .bool false), ([], fun _ => undef), ([], fun _ => undef), ([], fun _ => undef), ([], fun _ => undef), ([], fun _ => undef), ([], fun _ => .bool false), ([], fun _ => .bool false)])
                        (by kernel_rfl) ⟨by kernel_rfl, ⟨FreeV.d_bin _ rfl rfl (fun _ xo yo w => cmp_neq4 xo yo w (by simp)),
                          trivial⟩,
                          fun β => by kernel_rfl, fun β => by kernel_rfl, by kernel_rfl, fun β => by kernel_rfl, by kernel_rfl⟩ (HV.out) (fun β => Free.from_ 187 [.bool false, .bool false, .bool false, .bool false, .bool false, .bool false, undef, undef, undef, undef, undef, .bool false, .bool false]) (fun β => by kernel_rfl) ?_
                      intro β wq hq
                      have HE := Lib.hid hq.out.1
                      clear hq
                      rw [Free.puts_from _ _ _ (Nat.le_of_ble_eq_true rfl)]
                      simp only [List.take_succ_cons, List.take_zero, List.drop_succ_cons, List.drop_zero, List.cons_append, List.nil_append, List.length_cons, List.length_nil, Nat.reduceAdd]
                      clear HV HWV
                      go_wp2_with fail
                      first
                        | (go_roundw
                           case rel => exact ⟨j + 1, m9, L.set k x2, R9, rc, cp, by go_num, by omega, Lib.hid ⟨by rw [show (((j + 1 : Nat) : Int)) = (j : Int) + 1 by omega]; exact HE.out, by rw [List.length_set]; exact HLN.out⟩⟩
                           case measure => simp [intOf]; omega)
                        | (refine ⟨?_, ?measure⟩
                           (repeat apply Exists.intro)
                           refine ⟨?rel, rfl⟩
                           case rel => exact ⟨j + 1, m9, L.set k x2, R9, rc, cp, by go_num, by omega, Lib.hid ⟨by rw [show (((j + 1 : Nat) : Int)) = (j : Int) + 1 by omega]; exact HE.out, by rw [List.length_set]; exact HLN.out⟩⟩
                           case measure => simp [intOf]; omega)
                · have j1 : ¬ (j : Int) < (T.length : Int) := by omega
                  have HF := Lib.hid HA.out.tm.team.has.below
                  clear HA hR
                  go_wp2
                  go_ret
                  exact ⟨rfl, HF.out⟩
        · have g3 : (T.length : Int) > 200 := by omega
          go_enter Tryd.func4, Tryd.ntmps4
          go_wp2_with fail
          refine haw.mono ?_
          rintro e w1 ⟨rfl, b1⟩
          have haw1 := awake_any w1 (hT.below b1)
          have B1 := Lib.hid b1
          clear haw b1
          go_wp2_with fail
          refine haw1.mono ?_
          rintro e w2 ⟨rfl, b2⟩
          have B2 := Lib.hid (B1.out.trans (b2.mono B1.out.size))
          clear haw1 b2
          go_wp2
          go_ret
          exact ⟨rfl, B2.out⟩
      · have g2 : ((l 2).length : Int) > 40 := by omega
        go_enter Tryd.func4, Tryd.ntmps4
        go_wp2_with fail
        refine haw.mono ?_
        rintro e w1 ⟨rfl, b1⟩
        have haw1 := awake_any w1 (hT.below b1)
        have B1 := Lib.hid b1
        clear haw b1
        go_wp2_with fail
        refine haw1.mono ?_
        rintro e w2 ⟨rfl, b2⟩
        have B2 := Lib.hid (B1.out.trans (b2.mono B1.out.size))
        clear haw1 b2
        go_wp2
        go_ret
        exact ⟨rfl, B2.out⟩
    · have g1 : ((l 1).length : Int) > 40 := by omega
      go_enter Tryd.func4, Tryd.ntmps4
      go_wp2_with fail
      refine haw.mono ?_
      rintro e w1 ⟨rfl, b1⟩
      have haw1 := awake_any w1 (hT.below b1)
      have B1 := Lib.hid b1
      clear haw b1
      go_wp2_with fail
      refine haw1.mono ?_
      rintro e w2 ⟨rfl, b2⟩
      have B2 := Lib.hid (B1.out.trans (b2.mono B1.out.size))
      clear haw1 b2
      go_wp2
      go_ret
      exact ⟨rfl, B2.out⟩
  · have g0 : ((l 0).length : Int) > 40 := by omega
    go_enter Tryd.func4, Tryd.ntmps4
    go_wp2_with fail
    refine haw.mono ?_
    rintro e w1 ⟨rfl, b1⟩
    have haw1 := awake_any w1 (hT.below b1)
    have B1 := Lib.hid b1
    clear haw b1
    go_wp2_with fail
    refine haw1.mono ?_
    rintro e w2 ⟨rfl, b2⟩
    have B2 := Lib.hid (B1.out.trans (b2.mono B1.out.size))
    clear haw1 b2
    go_wp2
    go_ret
    exact ⟨rfl, B2.out⟩
def pick3 {α : Type} (a b c : α) : Nat → α
  | 0 => a
  | 1 => b
  | _ => c
theorem turnsLaw (a : Int) (ha : (Lit.int .u8 a).wf = true) (a0 : Option Addr) (l0 : List Aq) (c0 : Nat) {w : World} (hL0 : Asks w a0 l0) (hK0 : AsksOk l0) (a1 : Option Addr) (l1 : List Aq) (c1 : Nat) (hL1 : Asks w a1 l1) (hK1 : AsksOk l1) (a2 : Option Addr) (l2 : List Aq) (c2 : Nat) (hL2 : Asks w a2 l2) (hK2 : AsksOk l2) (tb : Option Addr) (T : List Int) (tc : Nat) (hB : Bys w tb T) (_W : World) (hT : TabAt w) :
    Calls Tryd.prog 4 #[.int .u8 a, .slice a0 l0.length c0, .slice a1 l1.length c1, .slice a2 l2.length c2, .slice tb T.length tc] w fun e w' => e = .returned (.bool true) ∧ Below w.heap.size w w' := by
  obtain ⟨h0, h1⟩ := wf8 ha
  obtain ⟨n, rfl⟩ : ∃ n : Nat, a = (n : Int) := ⟨a.toNat, by omega⟩
  refine turns_law n (by omega) (pick3 a0 a1 a2) (pick3 c0 c1 c2) (pick3 l0 l1 l2) tb T tc w hT (fun k hk => ?_) (fun k hk => ?_) hB
  · match k, hk with
    | 0, _ => exact hL0
    | 1, _ => exact hL1
    | 2, _ => exact hL2
  · match k, hk with
    | 0, _ => exact hK0
    | 1, _ => exact hK1
    | 2, _ => exact hK2
end Go.Proofs.YthdcilbbllldiaaDoor
