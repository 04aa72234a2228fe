/- StepAlone: what is true on the way, of the machine and of the document's memory and run. No condition of its own. -/
import Derived.Test.YthdcilbbllldiaaDoorStR
import Derived.Test.YthdcilbbllldiaaDoorOpen
namespace Go.Proofs.YthdcilbbllldiaaDoor
open Go.RowKit Go.Op
set_option maxRecDepth 100000

/-- Another memory, and the law's own variables. -/
structure Al (w0 : World) (b c r b2 c2 r2 vb rb lb : Nat) (ad : Option Addr) (cap : Nat) (l : List Aq) (m0 : M) (N : Int) (m : M) (rr : Rn) (mr : M) (r1 : Rn) (x : Mach) (rc cp : Nat) (w : World) : Prop where
  team : Team w0 b c r N w m [x]
  lm : Lm l lb rr x
  o : Has w0 b2 c2 r2 0 w m0
  rat : RAt w rc mr
  var : Var w vb mr rc cp
  rn : RnAt w rb r1
  fz : ∀ j, w.frozen? ⟨rb, j, none⟩ = false
  lc : w.cell? ⟨lb, 0, none⟩ = some (.slice ad l.length cap)
  off : ∀ z, z = b2 ∨ z = c2 ∨ z = r2 ∨ z = vb ∨ z = rb ∨ z = lb ∨ z = rc → Off z b c r w [x]
  nv : ∀ z, z = b2 ∨ z = c2 ∨ z = r2 ∨ z = lb ∨ z = rc → z ≠ vb ∧ z ≠ rb
  vr : vb ≠ rb
  hv : w0.heap.size ≤ vb ∧ w0.heap.size ≤ rb
  rm : rc ≠ b2 ∧ rc ≠ c2 ∧ rc ≠ r2
section
variable {w0 : World} {b c r b2 c2 r2 vb rb lb : Nat} {ad : Option Addr} {cap : Nat} {l : List Aq} {m0 : M} {N N' : Int} {m m' : M} {rr rr' : Rn} {mr mr' : M} {r1 r1' : Rn} {x x' : Mach} {rc cp rc' cp' : Nat} {w w' : World}
theorem Al.mac (h : Al w0 b c r b2 c2 r2 vb rb lb ad cap l m0 N m rr mr r1 x rc cp w) : Mac w0 b c r N x.xb x.t w m x.s x.f x.fin x.out := h.team.mac 0 x rfl
theorem Al.ovar (h : Al w0 b c r b2 c2 r2 vb rb lb ad cap l m0 N m rr mr r1 x rc cp w) : Off vb b c r w [x] := h.off vb (by simp)
theorem Al.orb (h : Al w0 b c r b2 c2 r2 vb rb lb ad cap l m0 N m rr mr r1 x rc cp w) : Off rb b c r w [x] := h.off rb (by simp)
theorem Al.olb (h : Al w0 b c r b2 c2 r2 vb rb lb ad cap l m0 N m rr mr r1 x rc cp w) : Off lb b c r w [x] := h.off lb (by simp)
/-- Where the team's blocks turned, and all else is as it was. -/
theorem Al.team' (h : Al w0 b c r b2 c2 r2 vb rb lb ad cap l m0 N m rr mr r1 x rc cp w) (ht : Team w0 b c r N' w' m' [x']) (hl : Lm l lb rr' x') (hs : w.heap.size ≤ w'.heap.size) (hk : ∀ z, Off z b c r w [x] → Off z b c r w' [x'] ∧ w'.heap[z]? = w.heap[z]?) : Al w0 b c r b2 c2 r2 vb rb lb ad cap l m0 N' m' rr' mr r1 x' rc cp w' := by
  have k := fun z hz => hk z (h.off z hz)
  refine ⟨ht, hl, h.o.same hs ht.has.below (k b2 (by simp)).2 (k c2 (by simp)).2 (k r2 (by simp)).2, h.rat.of hs (k rc (by simp)).2, h.var.of hs (k vb (by simp)).2, h.rn.same (k rb (by simp)).2, fun j => ?_, ?_, fun z hz => (k z hz).1, h.nv, h.vr, h.hv, h.rm⟩
  · rw [World.frozen?_of_block (w := w) (a := ⟨rb, j, none⟩) (k rb (by simp)).2]; exact h.fz j
  · rw [World.cell?_of_block (w := w) (a := ⟨lb, 0, none⟩) (k lb (by simp)).2]; exact h.lc
theorem Al.later (h : Al w0 b c r b2 c2 r2 vb rb lb ad cap l m0 N m rr mr r1 x rc cp w) (hb : Below w.heap.size w w') : Al w0 b c r b2 c2 r2 vb rb lb ad cap l m0 N m rr mr r1 x rc cp w' :=
  h.team' (h.team.later hb) h.lm hb.size fun z hz => ⟨hz.later hb.size, hb.block z hz.lt⟩
theorem Al.less (h : Al w0 b c r b2 c2 r2 vb rb lb ad cap l m0 N m rr mr r1 x rc cp w) (hN : N ≤ N') : Al w0 b c r b2 c2 r2 vb rb lb ad cap l m0 N' m rr mr r1 x rc cp w :=
  ⟨⟨h.team.has.less hN, fun i x hx => (h.team.mac i x hx).less hN, h.team.apart⟩, h.lm, h.o, h.rat, h.var, h.rn, h.fz, h.lc, h.off, h.nv, h.vr, h.hv, h.rm⟩
theorem Al.step {y : Mach} (h : Al w0 b c r b2 c2 r2 vb rb lb ad cap l m0 N m rr mr r1 x rc cp w) (hx : y.xb = x.xb) (hy : Mac w0 b c r N' y.xb y.t w' m' y.s y.f y.fin y.out) (hl : Lm l lb rr' y) (hk : But5 b c r x.xb x.t w w') (hr : Row2 w x.t y.t) : Al w0 b c r b2 c2 r2 vb rb lb ad cap l m0 N' m' rr' mr r1 y rc cp w' := by
  have ht := h.team.step (i := 0) (x := x) (y := y) rfl hx hy hk hr
  exact h.team' ht hl hk.size fun z hz => hz.step (i := 0) (x := x) (y := y) rfl hx hk hr
/-- The law's memory is another one. -/
theorem Al.ref (h : Al w0 b c r b2 c2 r2 vb rb lb ad cap l m0 N m rr mr r1 x rc cp w) (hb : Below w.heap.size w w') (hA : RAt w' rc' mr') (hc : rc' = rc ∨ w.heap.size ≤ rc') (cp' : Nat) : Al w0 b c r b2 c2 r2 vb rb lb ad cap l m0 N m rr mr' r1 x rc' cp' (four w' vb (.slice (some ⟨rc', 0, none⟩) mr'.cells.length cp') mr'.count mr'.live mr'.stale) := by
  have h1 := h.later hb
  have hB := four_but w' vb (.slice (some ⟨rc', 0, none⟩) mr'.cells.length cp') mr'.count mr'.live mr'.stale
  have hv := h1.ovar
  have hlt : ∀ z, z = b2 ∨ z = c2 ∨ z = r2 ∨ z = vb ∨ z = rb ∨ z = lb ∨ z = rc → z < w.heap.size := fun z hz => (h.off z hz).lt
  have l1 := hlt b2 (by simp)
  have l2 := hlt c2 (by simp)
  have l3 := hlt r2 (by simp)
  have l4 := hlt vb (by simp)
  have l5 := hlt rb (by simp)
  have l6 := hlt lb (by simp)
  have hrcO : Off rc' b c r w' [x] := by
    rcases hc with rfl | hc
    · exact h1.off _ (by simp)
    · have o := h.team.has.at_.own
      have o1 := o.lb
      have o2 := o.lc
      have o3 := o.lr
      refine ⟨hA.lt, ⟨by omega, by omega, by omega⟩, fun i y hy => ?_⟩
      have p := (h.team.mac i y hy).sys.pt
      have := p.lt
      refine ⟨by omega, fun e => ?_⟩
      have := (World.ownsRow.lt p.own _ e).2
      omega
  have hrv : rc' ≠ vb ∧ rc' ≠ rb ∧ rc' ≠ b2 ∧ rc' ≠ c2 ∧ rc' ≠ r2 := by
    rcases hc with rfl | hc
    · have := h.nv rc' (by simp)
      exact ⟨this.1, this.2, h.rm.1, h.rm.2.1, h.rm.2.2⟩
    · exact ⟨by omega, by omega, by omega, by omega, by omega⟩
  generalize hw9 : four w' vb (.slice (some ⟨rc', 0, none⟩) mr'.cells.length cp') mr'.count mr'.live mr'.stale = w9 at *
  have hk : ∀ z, z < w'.heap.size → z ≠ vb → w9.heap[z]? = w'.heap[z]? := hB.block
  have ht := h1.team.beside (g := vb) (w' := w9) hB.size (h1.team.has.below.trans ⟨hB.os, hB.tape, hB.output, hB.size, fun k hk2 => hk k (Nat.lt_of_lt_of_le hk2 h1.team.has.below.size) (by have := h.hv.1; omega)⟩) hk ⟨hv.m.1, hv.m.2.1, hv.m.2.2, hv.x⟩
  have ko := fun z hz => hk z (h1.off z hz).lt
  refine ⟨ht, h1.lm, h1.o.same hB.size ht.has.below (ko b2 (by simp) (h.nv b2 (by simp)).1) (ko c2 (by simp) (h.nv c2 (by simp)).1) (ko r2 (by simp) (h.nv r2 (by simp)).1), hA.of hB.size (hk rc' hA.lt hrv.1), by rw [← hw9]; exact h1.var.put mr' rc' cp', h1.rn.same (ko rb (by simp) h.vr.symm), fun j => ?_, ?_, fun z hz => ?_, fun z hz => ?_, h.vr, h.hv, ⟨hrv.2.2.1, hrv.2.2.2.1, hrv.2.2.2.2⟩⟩
  · rw [World.frozen?_of_block (w := w') (a := ⟨rb, j, none⟩) (ko rb (by simp) h.vr.symm)]; exact h1.fz j
  · rw [World.cell?_of_block (w := w') (a := ⟨lb, 0, none⟩) (ko lb (by simp) (h.nv lb (by simp)).1)]; exact h1.lc
  · by_cases e : z = rc'
    · subst e; exact hrcO.later hB.size
    · exact (h1.off z (by rcases hz with e1 | e1 | e1 | e1 | e1 | e1 | e1 <;> first | exact absurd e1 e | simp [e1])).later hB.size
  · by_cases e : z = rc'
    · subst e; exact ⟨hrv.1, hrv.2.1⟩
    · exact h.nv z (by rcases hz with e1 | e1 | e1 | e1 | e1 <;> first | exact absurd e1 e | simp [e1])
/-- The law's run is another one. -/
theorem Al.run (h : Al w0 b c r b2 c2 r2 vb rb lb ad cap l m0 N m rr mr r1 x rc cp w) (r1' : Rn) : Al w0 b c r b2 c2 r2 vb rb lb ad cap l m0 N m rr mr r1' x rc cp (rput w rb r1') := by
  have hB := rput_but w rb r1'
  have hv := h.orb
  have hput := h.rn.put r1'
  have hfz := rput_fz w rb r1'
  generalize rput w rb r1' = w9 at *
  have hk : ∀ z, z < w.heap.size → z ≠ rb → w9.heap[z]? = w.heap[z]? := hB.block
  have ht := h.team.beside (g := rb) (w' := w9) hB.size (h.team.has.below.trans ⟨hB.os, hB.tape, hB.output, hB.size, fun k hk2 => hk k (Nat.lt_of_lt_of_le hk2 h.team.has.below.size) (by have := h.hv.2; omega)⟩) hk ⟨hv.m.1, hv.m.2.1, hv.m.2.2, hv.x⟩
  have ko := fun z hz => hk z (h.off z hz).lt
  refine ⟨ht, h.lm, h.o.same hB.size ht.has.below (ko b2 (by simp) (h.nv b2 (by simp)).2) (ko c2 (by simp) (h.nv c2 (by simp)).2) (ko r2 (by simp) (h.nv r2 (by simp)).2), h.rat.of hB.size (ko rc (by simp) (h.nv rc (by simp)).2), h.var.of hB.size (ko vb (by simp) h.vr), hput, fun j => by rw [hfz]; exact h.fz j, ?_, fun z hz => (h.off z hz).later hB.size, h.nv, h.vr, h.hv, h.rm⟩
  rw [World.cell?_of_block (w := w) (a := ⟨lb, 0, none⟩) (ko lb (by simp) (h.nv lb (by simp)).2)]; exact h.lc
end
/-- The beginning. -/
theorem al_start {w0 w3 w4 w5 w6 w7 w8 : World} {b c r b2 c2 r2 rc cp : Nat} {m0 : M} {ad : Option Addr} {cap : Nat} {l : List Aq} (h : Has w0 b c r 0 w3 m0) (o : Has w0 b2 c2 r2 0 w3 m0)
    (hs : ∀ z, z = b2 ∨ z = c2 ∨ z = r2 → z ≠ b ∧ z ≠ c ∧ z ≠ r) (rA : RAt w4 rc m0) (b34 : Below w3.heap.size w3 w4) (hrc : w3.heap.size ≤ rc)
    (h5 : w5 = w4.alloc (.cells (m0.row rc cp).toArray 29)) (h6 : w6 = w5.alloc (.cells r0.row.toArray 32)) (h7 : w7 = w6.alloc (.cells #[.slice ad l.length cap] 22)) (h8 : w8 = w7.alloc (machObj b (caps31 w6.heap.size))) :
    Al w0 b c r b2 c2 r2 w4.heap.size w5.heap.size w6.heap.size ad cap l m0 0 m0 r0 m0 r0 (mach0 w7.heap.size (caps31 w6.heap.size)) rc cp w8 := by
  have b45 : Below w4.heap.size w4 w5 := by rw [h5]; exact (Below.refl _ _).alloc (Nat.le_refl _) _
  have b56 : Below w5.heap.size w5 w6 := by rw [h6]; exact (Below.refl _ _).alloc (Nat.le_refl _) _
  have b67 : Below w6.heap.size w6 w7 := by rw [h7]; exact (Below.refl _ _).alloc (Nat.le_refl _) _
  have b78 : Below w7.heap.size w7 w8 := by rw [h8]; exact (Below.refl _ _).alloc (Nat.le_refl _) _
  have z5 : w5.heap.size = w4.heap.size + 1 := by rw [h5]; simp
  have z6 : w6.heap.size = w5.heap.size + 1 := by rw [h6]; simp
  have z7 : w7.heap.size = w6.heap.size + 1 := by rw [h7]; simp
  have z34 := b34.size
  have b47 : Below w4.heap.size w4 w7 := (b45.trans (b56.mono (by omega))).trans (b67.mono (by omega))
  have b37 : Below w3.heap.size w3 w7 := b34.trans (b47.mono z34)
  have hh := h.later b37
  have oo := h.at_.own
  have o1 := oo.lb
  have o2 := oo.lc
  have o3 := oo.lr
  have p := o.at_.own
  have p1 := p.lb
  have p2 := p.lc
  have p3 := p.lr
  have hrl := rA.lt
  have ht := (Team.nil hh).add (caps31 w6.heap.size)
  rw [List.nil_append, ← h8] at ht
  have hw0 := h.below.size
  have e5 : ∀ i, w8.cell? ⟨w5.heap.size, i, none⟩ = r0.row.toArray[i]? := fun i => by
    rw [b78.cell (p := ⟨w5.heap.size, i, none⟩) (show w5.heap.size < w7.heap.size by omega), b67.cell (p := ⟨w5.heap.size, i, none⟩) (show w5.heap.size < w6.heap.size by omega), h6]
    exact World.cell?_alloc_new ..
  have e4 : ∀ i, w8.cell? ⟨w4.heap.size, i, none⟩ = (m0.row rc cp).toArray[i]? := fun i => by
    rw [b78.cell (p := ⟨w4.heap.size, i, none⟩) (show w4.heap.size < w7.heap.size by omega), b67.cell (p := ⟨w4.heap.size, i, none⟩) (show w4.heap.size < w6.heap.size by omega), b56.cell (p := ⟨w4.heap.size, i, none⟩) (show w4.heap.size < w5.heap.size by omega), h5]
    exact World.cell?_alloc_new ..
  have e6 : w8.cell? ⟨w6.heap.size, 0, none⟩ = some (.slice ad l.length cap) := by
    rw [b78.cell (p := ⟨w6.heap.size, 0, none⟩) (show w6.heap.size < w7.heap.size by omega), h7, World.cell?_alloc_new]
    rfl
  refine ⟨ht, Lm.start l _ _, (o.later b37).later b78, rA.below (b47.trans (b78.mono (by omega))) hrl, ⟨fun j v hj => ?_, fun i => ?_, ?_⟩, ⟨e5 0, e5 1, e5 2, e5 3, e5 4⟩, fun j => ?_, e6, fun z hz => ?_, fun z hz => ?_, by omega, ⟨by omega, by omega⟩, ⟨by omega, by omega, by omega⟩⟩
  · rw [Nat.zero_add, e4]
    simpa using hj
  · rw [b78.frozen (p := ⟨w4.heap.size, i, none⟩) (show w4.heap.size < w7.heap.size by omega), b67.frozen (p := ⟨w4.heap.size, i, none⟩) (show w4.heap.size < w6.heap.size by omega), b56.frozen (p := ⟨w4.heap.size, i, none⟩) (show w4.heap.size < w5.heap.size by omega), h5]
    exact World.frozen?_alloc_at _ 29 _ i rfl
  · have := b78.size
    omega
  · rw [b78.frozen (p := ⟨w5.heap.size, j, none⟩) (show w5.heap.size < w7.heap.size by omega), b67.frozen (p := ⟨w5.heap.size, j, none⟩) (show w5.heap.size < w6.heap.size by omega), h6]
    exact World.frozen?_alloc_at _ 32 _ j rfl
  · rw [h8]
    have hz2 : z < w7.heap.size ∧ z ≠ b ∧ z ≠ c ∧ z ≠ r := by
      rcases hz with e | e | e | e | e | e | e
      · have := hs z (by simp [e]); omega
      · have := hs z (by simp [e]); omega
      · have := hs z (by simp [e]); omega
      all_goals omega
    exact (⟨hz2.1, hz2.2, fun i y hy => (by simp at hy)⟩ : Off z b c r w7 []).add (caps31 w6.heap.size)
  · rcases hz with e | e | e | e | e <;> omega
/-- The machine's step, within the region that looks at it: Q is true throughout, P behind the step. -/
def SMid2 (iC : Nat) (Q P : World → Prop) (V : Value) (w : World) (bs : List Bool) (β : Nat → Value) (W : World) : Prop :=
  Q W ∧ (bs[0]? = some false → Below w.heap.size w W) ∧ (bs[0]? = some true → β iC = V ∧ P W)
section
variable {iC : Nat} {Q P : World → Prop} {V : Value} {w : World} {bs : List Bool} {β : Nat → Value} {W : World}
theorem smid2_start (hQ : Q w.drew) {β : Nat → Value} : SMid2 iC Q P V w [false] β w.drew := ⟨hQ, fun _ => (Below.refl _ _).drew, fun e => (by cases e)⟩
theorem smid2_step {f : FuncId} {args : Array Value} (hr : ∀ W, Below w.heap.size w W → Calls Tryd.prog f args W fun e w' => e = .returned V ∧ P w') (hq : ∀ w', P w' → Q w') (h : SMid2 iC Q P V w bs β W) (h0 : bs[0]? = some false) :
    Calls Tryd.prog f args W fun e w' => ∃ u, e = .returned u ∧ SMid2 iC Q P V w (bs.set 0 true) (FreeV.upd β iC u) w' := by
  refine (hr W (h.2.1 h0)).mono ?_
  rintro e w' ⟨rfl, h1⟩
  exact ⟨V, rfl, hq _ h1, fun e2 => (by rw [set_at h0] at e2; cases e2), fun _ => ⟨by simp only [FreeV.upd, if_true], h1⟩⟩
end
theorem neq4_read {v : Value} {d : Bool} (e : v = .bool d) (xo yo : Operand) (w : World) : (eqGuard .neq 4 xo yo v (.bool d)).run Tryd.prog w = .ok () w ∧ (binOp .neq 4 v (.bool d)).run Tryd.prog w = .ok (.bool false) w := by
  subst e
  cases d <;> exact ⟨by simp [eqGuard], by kernel_rfl⟩
/-- Behind the machine's step. -/
def AP (w0 : World) (b c r b2 c2 r2 vb rb lb xb : Nat) (ad : Option Addr) (cap : Nat) (l : List Aq) (m0 : M) (N : Int) (m : M) (rr : Rn) (rc cp : Nat) (D : Bool) (W : World) : Prop :=
  ∃ x, Al w0 b c r b2 c2 r2 vb rb lb ad cap l m0 N m rr m rr x rc cp W ∧ x.xb = xb ∧ x.fin = D
section
variable {w0 : World} {b c r b2 c2 r2 vb rb lb xb : Nat} {ad : Option Addr} {cap : Nat} {l : List Aq} {m0 : M} {N : Int} {m : M} {rr : Rn} {rc cp : Nat} {D : Bool} {W : World}
theorem AP.steps (h : AP w0 b c r b2 c2 r2 vb rb lb xb ad cap l m0 N m rr rc cp D W) : Calls Tryd.prog 12 #[.pointer (some ⟨xb, 0, none⟩)] W fun e w' => e = .returned (.int .i64 (rr.steps : Int)) ∧ W = w' := by
  obtain ⟨x, hA, rfl, rfl⟩ := h
  have := steps_any hA.mac
  rwa [hA.lm.pl] at this
theorem AP.noted (h : AP w0 b c r b2 c2 r2 vb rb lb xb ad cap l m0 N m rr rc cp D W) : Calls Tryd.prog 13 #[.pointer (some ⟨xb, 0, none⟩)] W fun e w' => e = .returned (.int .i64 (rr.steps : Int)) ∧ W = w' := by
  obtain ⟨x, hA, rfl, rfl⟩ := h
  have := noted_any hA.mac
  rwa [hA.lm.nt] at this
theorem AP.ended (h : AP w0 b c r b2 c2 r2 vb rb lb xb ad cap l m0 N m rr rc cp D W) : Calls Tryd.prog 11 #[.pointer (some ⟨xb, 0, none⟩)] W fun e w' => e = .returned (.bool D) ∧ W = w' := by
  obtain ⟨x, hA, rfl, rfl⟩ := h
  exact ended_any hA.mac
theorem AP.count (h : AP w0 b c r b2 c2 r2 vb rb lb xb ad cap l m0 N m rr rc cp D W) : Calls Tryd.prog 17 #[.pointer (some ⟨b, 0, none⟩)] W fun e w' => e = .returned (.int .i64 m.count) ∧ W = w' := by
  obtain ⟨x, hA, _⟩ := h
  exact count_any W b c r m hA.team.has.at_
theorem AP.live (h : AP w0 b c r b2 c2 r2 vb rb lb xb ad cap l m0 N m rr rc cp D W) : Calls Tryd.prog 18 #[.pointer (some ⟨b, 0, none⟩)] W fun e w' => e = .returned (.int .i64 m.live) ∧ W = w' := by
  obtain ⟨x, hA, _⟩ := h
  exact live_any W b c r m hA.team.has.at_
theorem AP.var (h : AP w0 b c r b2 c2 r2 vb rb lb xb ad cap l m0 N m rr rc cp D W) : Var W vb m rc cp := by
  obtain ⟨x, hA, _⟩ := h
  exact hA.var
theorem AP.rn (h : AP w0 b c r b2 c2 r2 vb rb lb xb ad cap l m0 N m rr rc cp D W) : RnAt W rb rr := by
  obtain ⟨x, hA, _⟩ := h
  exact hA.rn
end
/-- Another memory is asked. -/
theorem Team.kept {w0 : World} {b c r b2 c2 r2 : Nat} {N : Int} {w w' : World} {m : M} {L : List Mach} (h : Team w0 b c r N w m L) (hk : Kept b2 c2 r2 w w') (hw : w0.heap.size ≤ b2 ∧ w0.heap.size ≤ c2 ∧ w0.heap.size ≤ r2) (ho : ∀ z, z = b2 ∨ z = c2 ∨ z = r2 → Off z b c r w L) : Team w0 b c r N w' m L := by
  have o := h.has.at_.own
  have n1 := ho b2 (by simp)
  have n2 := ho c2 (by simp)
  have n3 := ho r2 (by simp)
  have k : ∀ z, z < w.heap.size → z ≠ b2 → z ≠ c2 → z ≠ r2 → w'.heap[z]? = w.heap[z]? := hk.block
  have hh : Has w0 b c r N w' m := h.has.same hk.size (hk.below h.has.below.size hw.1 hw.2.1 hw.2.2 |> fun e => h.has.below.trans e) (k b o.lb n1.m.1.symm n2.m.1.symm n3.m.1.symm) (k c o.lc n1.m.2.1.symm n2.m.2.1.symm n3.m.2.1.symm) (k r o.lr n1.m.2.2.symm n2.m.2.2.symm n3.m.2.2.symm)
  refine ⟨hh, fun i x hx => ?_, h.apart⟩
  have q := h.mac i x hx
  have p := q.sys.pt
  have a1 := n1.x i x hx
  have a2 := n2.x i x hx
  have a3 := n3.x i x hx
  exact ⟨⟨hh, p.same (k _ p.lt a1.1.symm a2.1.symm a3.1.symm) (fun j e => k j (World.ownsRow.lt p.own j e).2 (fun e2 => a1.2 (e2 ▸ e)) (fun e2 => a2.2 (e2 ▸ e)) (fun e2 => a3.2 (e2 ▸ e))), q.sys.nb, q.sys.tb, q.sys.hp⟩, q.ok, q.e0, q.e8, q.e9⟩
theorem len_22 (a : Option Addr) (n cp : Nat) (ty : TypeId) (w : World) : (Builtin.len_ #[22] ty #[.slice a n cp]).run Tryd.prog w = .ok (.int .i64 (n : Int)) w := by go_simp
theorem cmp_geq3 {a b : Int} {r : Bool} (xo yo : Operand) (w : World) (h : decide (b ≤ a) = r) : (eqGuard .geq 3 xo yo (.int .i64 a) (.int .i64 b)).run Tryd.prog w = .ok () w ∧ (binOp .geq 3 (.int .i64 a) (.int .i64 b)).run Tryd.prog w = .ok (.bool r) w :=
  ⟨by simp [eqGuard], by subst h; go_simp⟩
theorem cmp_neq3 {a b : Int} {r : Bool} (xo yo : Operand) (w : World) (h : (a != b) = r) : (eqGuard .neq 3 xo yo (.int .i64 a) (.int .i64 b)).run Tryd.prog w = .ok () w ∧ (binOp .neq 3 (.int .i64 a) (.int .i64 b)).run Tryd.prog w = .ok (.bool r) w :=
  ⟨by simp [eqGuard], by subst h; go_simp⟩
theorem cmp_neq4 {a b r : Bool} (xo yo : Operand) (w : World) (h : (a != b) = r) : (eqGuard .neq 4 xo yo (.bool a) (.bool b)).run Tryd.prog w = .ok () w ∧ (binOp .neq 4 (.bool a) (.bool b)).run Tryd.prog w = .ok (.bool r) w :=
  ⟨by simp [eqGuard], by subst h; cases a <;> cases b <;> kernel_rfl⟩
theorem cmp_add3 {a b r : Int} (xo yo : Operand) (w : World) (h : a + b = r ∧ -9223372036854775808 ≤ r ∧ r ≤ 9223372036854775807) : (eqGuard .add 3 xo yo (.int .i64 a) (.int .i64 b)).run Tryd.prog w = .ok () w ∧ (binOp .add 3 (.int .i64 a) (.int .i64 b)).run Tryd.prog w = .ok (.int .i64 r) w := by
  obtain ⟨h, h0, h1⟩ := h
  exact ⟨by simp [eqGuard], by subst h; go_simp; rw [IntKind.wrap_i64]; omega⟩
section
open Go.ChangeShapes Go.WideShapes Go.ChangeAt Go.Deep
variable {H : Type} {enc : TypeId × Value → H} {w : World} {base : Nat} {held : Bool}
theorem cells41 : Tryd.prog.cellsOf 41 = 6 := by kernel_rfl
theorem cells4 : Tryd.prog.cellsOf 4 = 1 := by kernel_rfl
theorem cells3 : Tryd.prog.cellsOf 3 = 1 := by kernel_rfl
theorem cells5 : Tryd.prog.cellsOf 5 = 1 := by kernel_rfl
theorem open_ask1 {spare : Nat → Bool} {n : Nat} {cs : List Value} {x : DataW H × List MemPlace} (h : DataW.trod enc Tryd.prog w base spare held n 41 cs = some x) :
    ∃ e : Aq, cs = [.int .u8 e.act, .int .i64 e.pos, .int .i64 e.n, .int .i64 e.m, .bool e.told, .bool e.skip] ∧ 0 ≤ e.act ∧ e.act ≤ 255 := by
  obtain ⟨ys, n', _, _, hlen, hyl, hf⟩ := DataW.trod_struct Tryd.underlying41 h
  rw [cells41] at hlen
  match cs, hlen with
  | [c0, c1, c2, c3, c4, c5], _ =>
    match ys, hyl with
    | [y0, y1, y2, y3, y4, y5], _ =>
      have h0 : DataW.trod enc Tryd.prog w base spare held n' 5 (([c0, c1, c2, c3, c4, c5].drop 0).take (Tryd.prog.cellsOf 5)) = [y0, y1, y2, y3, y4, y5][0]? := hf 0 _ rfl
      have h1 : DataW.trod enc Tryd.prog w base spare held n' 3 (([c0, c1, c2, c3, c4, c5].drop 1).take (Tryd.prog.cellsOf 3)) = [y0, y1, y2, y3, y4, y5][1]? := hf 1 _ rfl
      have h2 : DataW.trod enc Tryd.prog w base spare held n' 3 (([c0, c1, c2, c3, c4, c5].drop 2).take (Tryd.prog.cellsOf 3)) = [y0, y1, y2, y3, y4, y5][2]? := hf 2 _ rfl
      have h3 : DataW.trod enc Tryd.prog w base spare held n' 3 (([c0, c1, c2, c3, c4, c5].drop 3).take (Tryd.prog.cellsOf 3)) = [y0, y1, y2, y3, y4, y5][3]? := hf 3 _ rfl
      have h4 : DataW.trod enc Tryd.prog w base spare held n' 4 (([c0, c1, c2, c3, c4, c5].drop 4).take (Tryd.prog.cellsOf 4)) = [y0, y1, y2, y3, y4, y5][4]? := hf 4 _ rfl
      have h5 : DataW.trod enc Tryd.prog w base spare held n' 4 (([c0, c1, c2, c3, c4, c5].drop 5).take (Tryd.prog.cellsOf 4)) = [y0, y1, y2, y3, y4, y5][5]? := hf 5 _ rfl
      rw [cells5] at h0
      rw [cells3] at h1 h2 h3
      rw [cells4] at h4 h5
      obtain ⟨a, e0, _, wa⟩ := DataW.trod_int Tryd.underlying5 (show DataW.trod enc Tryd.prog w base spare held n' 5 [c0] = some y0 from h0)
      obtain ⟨p, e1, _, _⟩ := DataW.trod_int Tryd.underlying3 (show DataW.trod enc Tryd.prog w base spare held n' 3 [c1] = some y1 from h1)
      obtain ⟨k, e2, _, _⟩ := DataW.trod_int Tryd.underlying3 (show DataW.trod enc Tryd.prog w base spare held n' 3 [c2] = some y2 from h2)
      obtain ⟨m, e3, _, _⟩ := DataW.trod_int Tryd.underlying3 (show DataW.trod enc Tryd.prog w base spare held n' 3 [c3] = some y3 from h3)
      obtain ⟨g, e4, _⟩ := DataW.trod_bool Tryd.underlying4 (show DataW.trod enc Tryd.prog w base spare held n' 4 [c4] = some y4 from h4)
      obtain ⟨q, e5, _⟩ := DataW.trod_bool Tryd.underlying4 (show DataW.trod enc Tryd.prog w base spare held n' 4 [c5] = some y5 from h5)
      simp only [List.cons.injEq, and_true] at e0 e1 e2 e3 e4 e5
      exact ⟨⟨a, p, k, m, g, q⟩, by rw [e0, e1, e2, e3, e4, e5], (wf8 wa).1, (wf8 wa).2⟩
theorem open_asks {a0 : Option Addr} {len cap : Nat} {d : DataW H} {p : List MemPlace} (h : DataW.Trod enc Tryd.prog w base (fun _ => true) held 22 (.slice a0 len cap) d p) : ∃ l : List Aq, l.length = len ∧ Asks w a0 l ∧ AsksOk l := by
  obtain ⟨fuel, h⟩ := h
  rcases open_slice Tryd.underlying22 h with ⟨hcs, _⟩ | ⟨a, len', cap', m, n, D, Pl, hcs, _, hl, _, hm, _, hi⟩
  · simp [Value.cells] at hcs
    obtain ⟨rfl, rfl, rfl⟩ := hcs
    exact ⟨[], rfl, .inl rfl, fun x hx => by cases hx⟩
  · simp [Value.cells] at hcs
    obtain ⟨rfl, rfl, rfl⟩ := hcs
    by_cases h0 : len = 0
    · subst h0
      exact ⟨[], rfl, .inl rfl, fun x hx => by cases hx⟩
    · have hmc : m = cap := by simpa using hm
      have hel : ∀ i : Nat, ∃ e : Aq, i < len → (w.cell? (a.add (i * 6)) = some (.int .u8 e.act) ∧ w.cell? (a.add (i * 6 + 1)) = some (.int .i64 e.pos) ∧ w.cell? (a.add (i * 6 + 2)) = some (.int .i64 e.n) ∧ w.cell? (a.add (i * 6 + 3)) = some (.int .i64 e.m) ∧ w.cell? (a.add (i * 6 + 4)) = some (.bool e.told) ∧ w.cell? (a.add (i * 6 + 5)) = some (.bool e.skip)) ∧ 0 ≤ e.act ∧ e.act ≤ 255 := by
        intro i
        by_cases hil : i < len
        · obtain ⟨cs', hc, ht⟩ := hi i (by omega)
          rw [cells41] at hc
          obtain ⟨e, rfl, hok⟩ := open_ask1 ht
          obtain ⟨_, _, hat⟩ := World.cells?_some hc
          have H : ∀ j (hj : j < 6), w.cell? (a.add (i * 6 + j)) = [Value.int .u8 e.act, .int .i64 e.pos, .int .i64 e.n, .int .i64 e.m, .bool e.told, .bool e.skip][j]? := fun j hj => by
            have := hat j hj
            rw [Go.Deep.add_add] at this
            exact this
          exact ⟨e, fun _ => ⟨⟨H 0 (by decide), H 1 (by decide), H 2 (by decide), H 3 (by decide), H 4 (by decide), H 5 (by decide)⟩, hok⟩⟩
        · exact ⟨⟨0, 0, 0, 0, false, false⟩, fun k => absurd k hil⟩
      obtain ⟨f, hf⟩ := Classical.axiomOfChoice hel
      obtain ⟨b, off, spot⟩ := a
      have hc0 := (hf 0 (by omega)).1.1
      have hspot : spot = none := by simpa [Addr.add] using World.cell?_spot hc0
      subst hspot
      have ad : ∀ j, (⟨b, off, none⟩ : Addr).add j = ⟨b, off + j, none⟩ := fun j => by simp [Addr.add]
      have hlen : ((List.range len).map f).length = len := by simp
      refine ⟨(List.range len).map f, hlen, .inr ⟨b, off, rfl, World.block_lt_of_cell? w _ hc0, fun k hk => ?_⟩, fun x hx => ?_⟩
      · have hk' : k < len := by rw [hlen] at hk; exact hk
        obtain ⟨⟨e1, e2, e3, e4, e5, e6⟩, _⟩ := hf k hk'
        rw [ad] at e1 e2 e3 e4 e5 e6
        simp only [List.getElem_map, List.getElem_range]
        exact ⟨e1, e2, e3, e4, e5, e6⟩
      · rw [List.mem_map] at hx
        obtain ⟨i, hi', rfl⟩ := hx
        exact (hf i (by simpa using hi')).2
end
end Go.Proofs.YthdcilbbllldiaaDoor
namespace Go.FreeV
open Go Go.RowKit Go.Free Go.Op
theorem d_get3 {P : Program} {effs : List Nat} {ops : Array Oper} {S : List Bool → (Nat → Value) → World → Prop} {i : Nat} (o0 : Oper) (ho : ops[i]? = some o0) {f : FuncId} {x a b c : Operand} {ts : Array TypeId} (hop : o0.op = .call { callee := .value x, args := #[a, b, c], argTypes := ts }) (he : ∀ zs w, (callFunc f zs).run P w = .ok (.enter f zs) w) (p : Nat) (hp : effs[p]? = some i) {va vb vc : (Nat → Value) → Value}
    (h : ∀ β bs w, S bs β w → Due ops effs i bs → Calls P f #[va β, vb β, vc β] w fun e w' => ∃ u, e = .returned u ∧ S (bs.set p true) (upd β i u) w') : Does P effs ops S ⟨i, fun β => [.func (.func f) #[] #[], va β, vb β, vc β], fun β => β i, .get⟩ := by
  refine ⟨fun β u => upd_same i u, p, hp, ?_⟩
  rintro o h1 β ρ h2 bs w hS hd
  rw [ho] at h1
  cases h1
  rw [hop] at h2
  have h3 : ρ x = .func (.func f) #[] #[] ∧ ρ a = va β ∧ ρ b = vb β ∧ ρ c = vc β := by simpa [Op.operands, Call.operands] using h2
  have hcf := he #[va β, vb β, vc β] w
  exact ⟨f, _, by simp [execOp, hop, resolve, h3.1, h3.2.1, h3.2.2.1, h3.2.2.2, invoke, go_sem, hcf], h β bs w hS hd⟩
theorem d_get1 {P : Program} {effs : List Nat} {ops : Array Oper} {S : List Bool → (Nat → Value) → World → Prop} {i : Nat} (o0 : Oper) (ho : ops[i]? = some o0) {f : FuncId} {x a : Operand} {ts : Array TypeId} (hop : o0.op = .call { callee := .value x, args := #[a], argTypes := ts }) (he : ∀ zs w, (callFunc f zs).run P w = .ok (.enter f zs) w) (p : Nat) (hp : effs[p]? = some i) {va : (Nat → Value) → Value}
    (h : ∀ β bs w, S bs β w → Due ops effs i bs → Calls P f #[va β] w fun e w' => ∃ u, e = .returned u ∧ S (bs.set p true) (upd β i u) w') : Does P effs ops S ⟨i, fun β => [.func (.func f) #[] #[], va β], fun β => β i, .get⟩ := by
  refine ⟨fun β u => upd_same i u, p, hp, ?_⟩
  rintro o h1 β ρ h2 bs w hS hd
  rw [ho] at h1
  cases h1
  rw [hop] at h2
  have h3 : ρ x = .func (.func f) #[] #[] ∧ ρ a = va β := by simpa [Op.operands, Call.operands] using h2
  have hcf := he #[va β] w
  exact ⟨f, _, by simp [execOp, hop, resolve, h3.1, h3.2, invoke, go_sem, hcf], h β bs w hS hd⟩
theorem d_binr {P : Program} {effs : List Nat} {ops : Array Oper} {S : List Bool → (Nat → Value) → World → Prop} {i : Nat} (o0 : Oper) (ho : ops[i]? = some o0) {op : BinOp} {T R : TypeId} {x y : Operand} (hop : o0.op = .binOp op T x y R) {vx vy v : (Nat → Value) → Value} (h : ∀ β bs xo yo w, S bs β w → Due ops effs i bs → (eqGuard op T xo yo (vx β) (vy β)).run P w = .ok () w ∧ (binOp op T (vx β) (vy β)).run P w = .ok (v β) w) : Does P effs ops S ⟨i, fun β => [vx β, vy β], v, .read⟩ := by
  rintro o h1 β ρ h2 bs w hS hD
  rw [ho] at h1
  cases h1
  rw [hop] at h2
  simp [Op.operands] at h2
  obtain ⟨g1, g2⟩ := h β bs x y w hS hD
  simp [execOp, hop, h2.1, h2.2, g1, g2]
end Go.FreeV
