/- StepTurns: three machines of one memory, their runs and lists in arrays, and the document's memory beside. No condition of its own. -/
import Derived.Test.YthdcilbbllldiaaDoorLawE
namespace Go.Proofs.YthdcilbbllldiaaDoor
open Go.RowKit Go.Op
set_option maxRecDepth 100000

/-- Machines of one memory: their lists, their places and the law's runs, each in an array. -/
structure Tm (w0 : World) (b c r qa qp qr : Nat) (ad : Nat → Option Addr) (cap : Nat → Nat) (l : Nat → List Aq) (lb : Nat → Nat) (N : Int) (m : M) (L : List Mach) (R R1 : Nat → Rn) (w : World) : Prop where
  team : Team w0 b c r N w m L
  sl : ∀ k, k < 3 → w.cell? ⟨qa, k, none⟩ = some (.slice (ad k) (l k).length (cap k))
  pt : ∀ k x, L[k]? = some x → w.cell? ⟨qp, k, none⟩ = some (.pointer (some ⟨x.xb, 0, none⟩))
  np : ∀ k, L.length ≤ k → k < 3 → w.cell? ⟨qp, k, none⟩ = some (.pointer none)
  rn : ∀ k, k < 3 → w.rangeAt qr (k * 5) (R1 k).row
  fp : ∀ j, w.frozen? ⟨qp, j, none⟩ = false
  fr : ∀ j, w.frozen? ⟨qr, j, none⟩ = false
  lm : ∀ k x, L[k]? = some x → Lm (l k) (lb k) (R k) x
  lc : ∀ k, k < L.length → w.cell? ⟨lb k, 0, none⟩ = some (.slice (ad k) (l k).length (cap k))
  off : ∀ z, z = qa ∨ z = qp ∨ z = qr ∨ (∃ k, k < L.length ∧ z = lb k) → Off z b c r w L
  n1 : ∀ k, k < L.length → lb k ≠ qp ∧ lb k ≠ qr
  n2 : qa ≠ qp ∧ qa ≠ qr ∧ qp ≠ qr
  hv : w0.heap.size ≤ qp ∧ w0.heap.size ≤ qr
section
variable {w0 : World} {b c r qa qp qr : Nat} {ad : Nat → Option Addr} {cap : Nat → Nat} {l : Nat → List Aq} {lb : Nat → Nat} {N N' : Int} {m m' : M} {L L' : List Mach} {R R' R1 : Nat → Rn} {w w' : World}
theorem Tm.move (h : Tm w0 b c r qa qp qr ad cap l lb N m L R R1 w) (ht : Team w0 b c r N' w' m' L') (hlen : L'.length = L.length) (hx : ∀ (k : Nat) (x' : Mach), L'[k]? = some x' → ∃ x : Mach, L[k]? = some x ∧ x'.xb = x.xb)
    (hl : ∀ k x', L'[k]? = some x' → Lm (l k) (lb k) (R' k) x') (hk : ∀ z, Off z b c r w L → Off z b c r w' L' ∧ ((z = qa ∨ z = qp ∨ z = qr ∨ (∃ k, k < L.length ∧ z = lb k)) → w'.heap[z]? = w.heap[z]?)) : Tm w0 b c r qa qp qr ad cap l lb N' m' L' R' R1 w' := by
  have k := fun z hz => hk z (h.off z hz)
  have cl : ∀ z j, (z = qa ∨ z = qp ∨ z = qr ∨ (∃ k, k < L.length ∧ z = lb k)) → w'.cell? ⟨z, j, none⟩ = w.cell? ⟨z, j, none⟩ := fun z j hz => World.cell?_of_block (w := w) (a := ⟨z, j, none⟩) ((k z hz).2 hz)
  have fz : ∀ z j, (z = qa ∨ z = qp ∨ z = qr ∨ (∃ k, k < L.length ∧ z = lb k)) → w'.frozen? ⟨z, j, none⟩ = w.frozen? ⟨z, j, none⟩ := fun z j hz => World.frozen?_of_block (w := w) (a := ⟨z, j, none⟩) ((k z hz).2 hz)
  refine ⟨ht, fun i hi => by rw [cl qa i (by simp)]; exact h.sl i hi, fun i x' hx' => ?_, fun i h1 h2 => by rw [cl qp i (by simp)]; exact h.np i (by omega) h2, fun i hi j v hj => by rw [cl qr _ (by simp)]; exact h.rn i hi j v hj, fun j => by rw [fz qp j (by simp)]; exact h.fp j, fun j => by rw [fz qr j (by simp)]; exact h.fr j, hl, fun i hi => ?_, fun z hz => ?_, fun i hi => h.n1 i (by omega), h.n2, h.hv⟩
  · obtain ⟨x, h1, h2⟩ := hx i x' hx'
    rw [cl qp i (by simp), h2]
    exact h.pt i x h1
  · rw [cl (lb i) 0 (.inr (.inr (.inr ⟨i, by omega, rfl⟩)))]
    exact h.lc i (by omega)
  · rw [hlen] at hz
    exact (k z hz).1
theorem Tm.later (h : Tm w0 b c r qa qp qr ad cap l lb N m L R R1 w) (hb : Below w.heap.size w w') : Tm w0 b c r qa qp qr ad cap l lb N m L R R1 w' :=
  h.move (h.team.later hb) rfl (fun _ x hx => ⟨x, hx, rfl⟩) h.lm fun z hz => ⟨hz.later hb.size, fun _ => hb.block z hz.lt⟩
theorem Tm.less (h : Tm w0 b c r qa qp qr ad cap l lb N m L R R1 w) (hN : N ≤ N') : Tm w0 b c r qa qp qr ad cap l lb N' m L R R1 w :=
  h.move ⟨h.team.has.less hN, fun i x hx => (h.team.mac i x hx).less hN, h.team.apart⟩ rfl (fun _ x hx => ⟨x, hx, rfl⟩) h.lm fun _ hz => ⟨hz, fun _ => rfl⟩
/-- A block that is none of them turns. -/
theorem Tm.beside {g : Nat} (h : Tm w0 b c r qa qp qr ad cap l lb N m L R R1 w) (hB : But g w w') (hg : w0.heap.size ≤ g) (ho : Off g b c r w L) (hn : ∀ z, z = qa ∨ z = qp ∨ z = qr ∨ (∃ k, k < L.length ∧ z = lb k) → z ≠ g) : Tm w0 b c r qa qp qr ad cap l lb N m L R R1 w' :=
  h.move (h.team.beside (g := g) hB.size (h.team.has.below.trans ⟨hB.os, hB.tape, hB.output, hB.size, fun k hk2 => hB.block k (Nat.lt_of_lt_of_le hk2 h.team.has.below.size) (by omega)⟩) hB.block ⟨ho.m.1, ho.m.2.1, ho.m.2.2, ho.x⟩) rfl (fun _ x hx => ⟨x, hx, rfl⟩) h.lm fun z hz => ⟨hz.later hB.size, fun hq => hB.block z hz.lt (hn z hq)⟩
def put1 {α : Type} (f : Nat → α) (k : Nat) (v : α) (j : Nat) : α := if j = k then v else f j
theorem put1_at {α : Type} (f : Nat → α) (k : Nat) (v : α) : put1 f k v k = v := if_pos rfl
theorem put1_ne {α : Type} (f : Nat → α) {k j : Nat} (v : α) (h : j ≠ k) : put1 f k v j = f j := if_neg h
theorem Tm.step {k : Nat} {x y : Mach} {rr' : Rn} (h : Tm w0 b c r qa qp qr ad cap l lb N m L R R1 w) (hi : L[k]? = some x) (hx : y.xb = x.xb) (hy : Mac w0 b c r N' y.xb y.t w' m' y.s y.f y.fin y.out) (hl : Lm (l k) (lb k) rr' y) (hk : But5 b c r x.xb x.t w w') (hr : Row2 w x.t y.t) :
    Tm w0 b c r qa qp qr ad cap l lb N' m' (L.set k y) (put1 R k rr') R1 w' := by
  have hkl : k < L.length := (List.getElem?_eq_some_iff.1 hi).1
  refine h.move (h.team.step hi hx hy hk hr) (by simp) (fun j z hz => ?_) (fun j z hz => ?_) fun z hz => ?_
  · rw [List.getElem?_set] at hz
    split at hz
    · rename_i e
      cases hz; subst e; exact ⟨x, hi, hx⟩
    · exact ⟨z, hz, rfl⟩
  · rw [List.getElem?_set] at hz
    split at hz
    · rename_i e
      cases hz; subst e; rw [put1_at]; exact hl
    · rename_i e
      rw [put1_ne _ _ (fun e2 => e e2.symm)]
      exact h.lm j z hz
  · have := hz.step hi hx hk hr
    exact ⟨this.1, fun _ => this.2⟩
theorem cells_but (w : World) (q : Nat) : ∀ (vs : List Value) (o : Nat), But q w (w.setCells q o vs)
  | [], o => But.refl q w
  | v :: t, o => by
    have h1 := (But.refl q w).set o v
    have h2 := cells_but (w.setCell ⟨q, o, none⟩ v) q t (o + 1)
    exact ⟨h2.os.trans h1.os, h2.tape.trans h1.tape, h2.output.trans h1.output, Nat.le_trans h1.size h2.size, fun k hk hn => (h2.block k (Nat.lt_of_lt_of_le hk h1.size) hn).trans (h1.block k hk hn)⟩
theorem range_there {q o : Nat} {vs : List Value} (h : w.rangeAt q o vs) (hf : ∀ j, w.frozen? ⟨q, j, none⟩ = false) : w.there q o vs.length := fun j hj => by
  rw [h j _ (List.getElem?_eq_getElem hj)]
  exact ⟨rfl, hf _⟩
theorem range_but {q o : Nat} {vs : List Value} (h : w.rangeAt q o vs) (hb : w'.heap[q]? = w.heap[q]?) : w'.rangeAt q o vs := fun j v hj => by
  rw [World.cell?_of_block (w := w) (a := ⟨q, o + j, none⟩) hb]
  exact h j v hj
/-- One of the law's runs is another one. -/
theorem Tm.put {k : Nat} (h : Tm w0 b c r qa qp qr ad cap l lb N m L R R1 w) (hk : k < 3) (r' : Rn) : Tm w0 b c r qa qp qr ad cap l lb N m L R (put1 R1 k r') (w.setCells qr (k * 5) r'.row) := by
  have hB := cells_but w qr r'.row (k * 5)
  have o := h.off qr (by simp)
  have hn : ∀ z, z = qa ∨ z = qp ∨ (∃ k, k < L.length ∧ z = lb k) → z < w.heap.size ∧ z ≠ qr := by
    rintro z (e | e | ⟨k, hk, e⟩)
    · exact ⟨(h.off z (by simp [e])).lt, by rw [e]; exact h.n2.2.1⟩
    · exact ⟨(h.off z (by simp [e])).lt, by rw [e]; exact h.n2.2.2⟩
    · exact ⟨(h.off z (.inr (.inr (.inr ⟨k, hk, e⟩)))).lt, by rw [e]; exact (h.n1 k hk).2⟩
  have ht := h.team.beside (g := qr) hB.size (h.team.has.below.trans ⟨hB.os, hB.tape, hB.output, hB.size, fun k hk2 => hB.block k (Nat.lt_of_lt_of_le hk2 h.team.has.below.size) (by have := h.hv.2; omega)⟩) hB.block ⟨o.m.1, o.m.2.1, o.m.2.2, o.x⟩
  have cl : ∀ z j, (z = qa ∨ z = qp ∨ (∃ k, k < L.length ∧ z = lb k)) → (w.setCells qr (k * 5) r'.row).cell? ⟨z, j, none⟩ = w.cell? ⟨z, j, none⟩ := fun z j hz => World.cell?_of_block (w := w) (a := ⟨z, j, none⟩) (hB.block z (hn z hz).1 (hn z hz).2)
  refine ⟨ht, fun i hi => by rw [cl qa i (by simp)]; exact h.sl i hi, fun i x hx => by rw [cl qp i (by simp)]; exact h.pt i x hx, fun i h1 h2 => by rw [cl qp i (by simp)]; exact h.np i h1 h2, fun i hi => ?_, fun j => by rw [World.frozen?_setCells]; exact h.fp j, fun j => by rw [World.frozen?_setCells]; exact h.fr j, h.lm, fun i hi => ?_, fun z hz => (h.off z hz).later hB.size, h.n1, h.n2, h.hv⟩
  · by_cases e : i = k
    · subst e
      rw [put1_at]
      exact World.rangeAt_setCells_same w qr (i * 5) r'.row (show w.there qr (i * 5) r'.row.length from range_there (vs := (R1 i).row) (h.rn i hi) h.fr)
    · rw [put1_ne _ _ e]
      refine World.rangeAt_setCells_apart (h.rn i hi) qr (k * 5) r'.row (.inr ?_)
      have e1 : (R1 i).row.length = 5 := rfl
      have e2 : r'.row.length = 5 := rfl
      omega
  · rw [cl (lb i) 0 (.inr (.inr ⟨i, hi, rfl⟩))]
    exact h.lc i hi
end
/-- The document's memory beside. -/
structure Tu (w0 : World) (b c r qa qp qr vb : Nat) (ad : Nat → Option Addr) (cap : Nat → Nat) (l : Nat → List Aq) (lb : Nat → Nat) (N : Int) (m : M) (L : List Mach) (R R1 : Nat → Rn) (mr : M) (rc cp : Nat) (w : World) : Prop where
  tm : Tm w0 b c r qa qp qr ad cap l lb N m L R R1 w
  rat : RAt w rc mr
  var : Var w vb mr rc cp
  ov : Off vb b c r w L
  oc : Off rc b c r w L
  nv : ∀ z, z = qa ∨ z = qp ∨ z = qr ∨ (∃ k, k < L.length ∧ z = lb k) → z ≠ vb
  nc : rc ≠ vb ∧ rc ≠ qr
  hv : w0.heap.size ≤ vb
section
variable {w0 : World} {b c r qa qp qr vb : Nat} {ad : Nat → Option Addr} {cap : Nat → Nat} {l : Nat → List Aq} {lb : Nat → Nat} {N N' : Int} {m m' : M} {L L' : List Mach} {R R' R1 : Nat → Rn} {mr mr' : M} {rc cp rc' cp' : Nat} {w w' : World}
theorem Tu.later (h : Tu w0 b c r qa qp qr vb ad cap l lb N m L R R1 mr rc cp w) (hb : Below w.heap.size w w') : Tu w0 b c r qa qp qr vb ad cap l lb N m L R R1 mr rc cp w' :=
  ⟨h.tm.later hb, h.rat.below hb h.rat.lt, h.var.below hb, h.ov.later hb.size, h.oc.later hb.size, h.nv, h.nc, h.hv⟩
theorem Tu.less (h : Tu w0 b c r qa qp qr vb ad cap l lb N m L R R1 mr rc cp w) (hN : N ≤ N') : Tu w0 b c r qa qp qr vb ad cap l lb N' m L R R1 mr rc cp w :=
  ⟨h.tm.less hN, h.rat, h.var, h.ov, h.oc, h.nv, h.nc, h.hv⟩
theorem Tu.step {k : Nat} {x y : Mach} {rr' : Rn} (h : Tu w0 b c r qa qp qr vb ad cap l lb N m L R R1 mr rc cp w) (hi : L[k]? = some x) (hx : y.xb = x.xb) (hy : Mac w0 b c r N' y.xb y.t w' m' y.s y.f y.fin y.out) (hl : Lm (l k) (lb k) rr' y) (hk : But5 b c r x.xb x.t w w') (hr : Row2 w x.t y.t) :
    Tu w0 b c r qa qp qr vb ad cap l lb N' m' (L.set k y) (put1 R k rr') R1 mr rc cp w' := by
  have a := h.ov.step hi hx hk hr
  have a2 := h.oc.step hi hx hk hr
  exact ⟨h.tm.step hi hx hy hl hk hr, h.rat.of hk.size a2.2, h.var.of hk.size a.2, a.1, a2.1, fun z hz => h.nv z (by simpa using hz), h.nc, h.hv⟩
theorem Tu.put {k : Nat} (h : Tu w0 b c r qa qp qr vb ad cap l lb N m L R R1 mr rc cp w) (hk : k < 3) (r' : Rn) : Tu w0 b c r qa qp qr vb ad cap l lb N m L R (put1 R1 k r') mr rc cp (w.setCells qr (k * 5) r'.row) := by
  have hB := cells_but w qr r'.row (k * 5)
  exact ⟨h.tm.put hk r', h.rat.of hB.size (hB.block rc h.rat.lt h.nc.2), h.var.of hB.size (hB.block vb h.var.lt (h.nv qr (by simp)).symm), h.ov.later hB.size, h.oc.later hB.size, h.nv, h.nc, h.hv⟩
theorem Tu.ref (h : Tu w0 b c r qa qp qr vb ad cap l lb N m L R R1 mr rc cp w) (hb : Below w.heap.size w w') (hA : RAt w' rc' mr') (hc : rc' = rc ∨ w.heap.size ≤ rc') (cp' : Nat) : Tu w0 b c r qa qp qr vb ad cap l lb N m L R R1 mr' rc' cp' (four w' vb (.slice (some ⟨rc', 0, none⟩) mr'.cells.length cp') mr'.count mr'.live mr'.stale) := by
  have h1 := h.later hb
  have hB := four_but w' vb (.slice (some ⟨rc', 0, none⟩) mr'.cells.length cp') mr'.count mr'.live mr'.stale
  have hrcO : Off rc' b c r w' L := by
    rcases hc with rfl | hc
    · exact h1.oc
    · have o := h.tm.team.has.at_.own
      have o1 := o.lb
      have o2 := o.lc
      have o3 := o.lr
      refine ⟨hA.lt, ⟨by omega, by omega, by omega⟩, fun i y hy => ?_⟩
      have p := (h.tm.team.mac i y hy).sys.pt
      have := p.lt
      refine ⟨by omega, fun e => ?_⟩
      have := (World.ownsRow.lt p.own _ e).2
      omega
  have hn : rc' ≠ vb ∧ rc' ≠ qr := by
    rcases hc with rfl | hc
    · exact h.nc
    · have := h.ov.lt
      have := (h.tm.off qr (by simp)).lt
      exact ⟨by omega, by omega⟩
  exact ⟨h1.tm.beside hB h.hv h1.ov h.nv, hA.of hB.size (hB.block rc' hA.lt hn.1), h1.var.put mr' rc' cp', h1.ov.later hB.size, hrcO.later hB.size, h.nv, hn, h.hv⟩
end
theorem at_48 (q k : Nat) (h : k < 3) (w : World) : (Instr.indexAt 48 (.pointer (some ⟨q, 0, none⟩)) (.int .i64 (k : Int))).run Tryd.prog w = .ok (.pointer (some ⟨q, k, none⟩)) w := by
  have h1 : (k : Int) < 3 := by omega
  go_simp
theorem at_49 (q k : Nat) (h : k < 3) (w : World) : (Instr.indexAt 49 (.pointer (some ⟨q, 0, none⟩)) (.int .i64 (k : Int))).run Tryd.prog w = .ok (.pointer (some ⟨q, k, none⟩)) w := by
  have h1 : (k : Int) < 3 := by omega
  go_simp
theorem at_50 (q k : Nat) (h : k < 3) (w : World) : (Instr.indexAt 50 (.pointer (some ⟨q, 0, none⟩)) (.int .i64 (k : Int))).run Tryd.prog w = .ok (.pointer (some ⟨q, k * 5, none⟩)) w := by
  have h1 : (k : Int) < 3 := by omega
  go_simp
theorem load_33 {w : World} {p : Addr} {v : Option Addr} (h : w.cell? p = some (.pointer v)) : (Instr.loadAt 33 (.pointer (some p))).run Tryd.prog w = .ok (.pointer v) w := by go_simp
theorem load_32 {w : World} {q o : Nat} {r : Rn} (h : w.rangeAt q o r.row) : (Instr.loadAt 32 (.pointer (some ⟨q, o, none⟩))).run Tryd.prog w = .ok r.v w :=
  run_loadAt_mid _ q o 32 r.row _ h Tryd.underlying32 rfl size32
theorem run_cells {w : World} {q o : Nat} {r : Rn} (h : w.rangeAt q o r.row) : w.cell? ⟨q, o, none⟩ = some (.int .i64 (r.at_ : Int)) ∧ w.cell? ⟨q, o + 1, none⟩ = some (.int .i64 r.told) ∧ w.cell? ⟨q, o + 2, none⟩ = some (.int .i64 r.sum) ∧ w.cell? ⟨q, o + 3, none⟩ = some (.int .i64 r.last) ∧ w.cell? ⟨q, o + 4, none⟩ = some (.int .i64 (r.steps : Int)) :=
  ⟨h 0 _ rfl, h 1 _ rfl, h 2 _ rfl, h 3 _ rfl, h 4 _ rfl⟩
/-- Within the region that makes the next run of one: bs tells whether Next has come up, whether it is laid down. -/
def NMid (iC : Nat) (w : World) (q o : Nat) (r9 : Rn) (bs : List Bool) (β : Nat → Value) (W : World) : Prop := ∃ W0 : World,
  Below w.heap.size w W0 ∧ (bs[0]? = some true → β iC = r9.v) ∧ (bs[1]? = some false → W = W0) ∧ (bs[1]? = some true → W = W0.setCells q o r9.row)
section
variable {iC : Nat} {w : World} {q o : Nat} {r9 : Rn} {bs : List Bool} {β : Nat → Value} {W : World}
theorem nmid_start {β : Nat → Value} : NMid iC w q o r9 [false, false] β w.drew := ⟨w.drew, (Below.refl _ _).drew, fun e => (by cases e), fun _ => rfl, fun e => (by cases e)⟩
theorem nmid_below (h : NMid iC w q o r9 bs β W) (h1 : bs[1]? = some false) : Below w.heap.size w W := by
  obtain ⟨W0, hb, _, e, _⟩ := h
  rw [e h1]
  exact hb
theorem nmid_next {f : FuncId} {args : Array Value} (hr : ∀ W, Below w.heap.size w W → Calls Tryd.prog f args W fun e w' => e = .returned r9.v ∧ Below W.heap.size W w') (h : NMid iC w q o r9 bs β W) (h1 : bs[1]? = some false) :
    Calls Tryd.prog f args W fun e w' => ∃ u, e = .returned u ∧ NMid iC w q o r9 (bs.set 0 true) (FreeV.upd β iC u) w' := by
  have hb := nmid_below h h1
  refine (hr W hb).mono ?_
  rintro e w' ⟨rfl, h2⟩
  refine ⟨_, rfl, w', hb.trans (h2.mono hb.size), fun _ => by simp only [FreeV.upd, if_true], fun _ => rfl, fun e => ?_⟩
  rw [List.getElem?_set_ne (by decide), h1] at e
  cases e
theorem nmid_store {r : Rn} (hw : w.rangeAt q o r.row) (hf : ∀ j, w.frozen? ⟨q, j, none⟩ = false) (hq : q < w.heap.size) (h : NMid iC w q o r9 bs β W) (h0 : bs[0]? = some true) (h1 : bs[1]? = some false) : ∃ w', (Instr.storeAt 32 (.pointer (some ⟨q, o, none⟩)) (β iC)).run Tryd.prog W = .ok () w' ∧ NMid iC w q o r9 (bs.set 1 true) β w' := by
  obtain ⟨W0, hb, hc, e, _⟩ := h
  obtain rfl := e h1
  have ht : W.there q o r9.row.toArray.size := by
    have h3 := range_but hw (hb.block q hq)
    exact range_there (vs := r.row) h3 (fun j => by rw [hb.frozen (p := ⟨q, j, none⟩) hq]; exact hf j)
  have hst := run_storeAt_mid (P := Tryd.prog) W q o 32 r9.row.toArray ht size32 (by
    simp only [Array.all_eq_true', Rn.row]
    intro v hv
    simp at hv
    rcases hv with rfl | rfl | rfl | rfl | rfl <;> rfl)
  refine ⟨W.setCells q o r9.row, ?_, W, hb, fun e => ?_, fun e2 => ?_, fun _ => rfl⟩
  · rw [hc h0]
    exact hst
  · rw [List.getElem?_set_ne (by decide)] at e
    exact hc e
  · rw [set_at h1] at e2
    cases e2
theorem nmid_end (h : NMid iC w q o r9 [true, true] β W) : ∃ W0 : World, Below w.heap.size w W0 ∧ β iC = r9.v ∧ W = W0.setCells q o r9.row := by
  obtain ⟨W0, hb, hc, _, e⟩ := h
  exact ⟨W0, hb, hc rfl, e rfl⟩
end
end Go.Proofs.YthdcilbbllldiaaDoor
namespace Go.FreeV
open Go Go.RowKit Go.Free Go.Op
theorem d_get5 {P : Program} {effs : List Nat} {ops : Array Oper} {S : List Bool → (Nat → Value) → World → Prop} {i : Nat} (o0 : Oper) (ho : ops[i]? = some o0) {f : FuncId} {x a b c d e : Operand} {ts : Array TypeId} (hop : o0.op = .call { callee := .value x, args := #[a, b, c, d, e], argTypes := ts }) (he : ∀ zs w, (callFunc f zs).run P w = .ok (.enter f zs) w) (p : Nat) (hp : effs[p]? = some i) {va vb vc vd ve : (Nat → Value) → Value}
    (h : ∀ β bs w, S bs β w → Due ops effs i bs → Calls P f #[va β, vb β, vc β, vd β, ve β] w fun e w' => ∃ u, e = .returned u ∧ S (bs.set p true) (upd β i u) w') : Does P effs ops S ⟨i, fun β => [.func (.func f) #[] #[], va β, vb β, vc β, vd β, ve β], fun β => β i, .get⟩ := by
  refine ⟨fun β u => upd_same i u, p, hp, ?_⟩
  rintro o h1 β ρ h2 bs w hS hd
  rw [ho] at h1
  cases h1
  rw [hop] at h2
  have h3 : ρ x = .func (.func f) #[] #[] ∧ ρ a = va β ∧ ρ b = vb β ∧ ρ c = vc β ∧ ρ d = vd β ∧ ρ e = ve β := by simpa [Op.operands, Call.operands] using h2
  have hcf := he #[va β, vb β, vc β, vd β, ve β] w
  exact ⟨f, _, by simp [execOp, hop, resolve, h3.1, h3.2.1, h3.2.2.1, h3.2.2.2.1, h3.2.2.2.2.1, h3.2.2.2.2.2, invoke, go_sem, hcf], h β bs w hS hd⟩
end Go.FreeV
