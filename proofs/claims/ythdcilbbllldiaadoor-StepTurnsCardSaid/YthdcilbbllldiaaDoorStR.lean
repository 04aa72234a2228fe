/- The region in which the law asks the reference: in whatever order its parts are done. Variables that hold the document's memory. Conditions: counts and live cells are below 2 to the 61. -/
import Derived.Test.YthdcilbbllldiaaDoorStQ
namespace Go.Proofs.YthdcilbbllldiaaDoor
open Go.RowKit Go.Op
set_option maxRecDepth 100000

/-- The parts of the document's memory. -/
def M.row (m : M) (c cap : Nat) : List Value := [.slice (some ⟨c, 0, none⟩) m.cells.length cap, .int .i64 m.count, .int .i64 m.live, .int .i64 m.stale]
/-- A variable that holds the document's memory. -/
structure Var (w : World) (p : Nat) (m : M) (rc cap : Nat) : Prop where
  at_ : w.rangeAt p 0 (m.row rc cap)
  fz : ∀ i, w.frozen? ⟨p, i, none⟩ = false
  lt : p < w.heap.size
section
variable {w w' : World} {p : Nat} {m : M} {rc cap : Nat}
theorem Var.of (h : Var w p m rc cap) (hs : w.heap.size ≤ w'.heap.size) (hb : w'.heap[p]? = w.heap[p]?) : Var w' p m rc cap :=
  ⟨fun j v hj => by rw [World.cell?_of_block (w := w) (a := ⟨p, 0 + j, none⟩) hb]; exact h.at_ j v hj, fun i => by simp only [World.frozen?, hb]; exact h.fz i, Nat.lt_of_lt_of_le h.lt hs⟩
theorem Var.below (h : Var w p m rc cap) (hb : Below w.heap.size w w') : Var w' p m rc cap := h.of hb.size (hb.block p h.lt)
theorem Var.cells (h : Var w p m rc cap) : w.cell? ⟨p, 0, none⟩ = some (.slice (some ⟨rc, 0, none⟩) m.cells.length cap) ∧ w.cell? ⟨p, 1, none⟩ = some (.int .i64 m.count) ∧ w.cell? ⟨p, 2, none⟩ = some (.int .i64 m.live) ∧ w.cell? ⟨p, 3, none⟩ = some (.int .i64 m.stale) :=
  ⟨h.at_ 0 _ rfl, h.at_ 1 _ rfl, h.at_ 2 _ rfl, h.at_ 3 _ rfl⟩
theorem Var.load (h : Var w p m rc cap) : (Instr.loadAt 29 (.pointer (some ⟨p, 0, none⟩))).run Tryd.prog w = .ok (m.rv rc cap) w :=
  run_loadAt_mid _ p 0 29 (m.row rc cap) _ h.at_ Tryd.underlying29 rfl size31
theorem Var.put (h : Var w p m rc cap) (m' : M) (rc' cap' : Nat) : Var (four w p (.slice (some ⟨rc', 0, none⟩) m'.cells.length cap') m'.count m'.live m'.stale) p m' rc' cap' := by
  obtain ⟨h0, h1, h2, h3⟩ := h.cells
  unfold four
  refine ⟨fun j v hj => ?_, fun i => by simp only [World.frozen?_setCell]; exact h.fz i, by have := h.lt; simpa [World.setCell] using this⟩
  rw [Nat.zero_add]
  match j, hj with
  | 0, hj => cases hj; exact set_other (set_other (set_other (set_same h0) (by omega)) (by omega)) (by omega)
  | 1, hj => cases hj; exact set_other (set_other (set_same (set_other h1 (by omega))) (by omega)) (by omega)
  | 2, hj => cases hj; exact set_other (set_same (set_other (set_other h2 (by omega)) (by omega))) (by omega)
  | 3, hj => cases hj; exact set_same (set_other (set_other (set_other h3 (by omega)) (by omega)) (by omega))
theorem four_but (w : World) (p : Nat) (x : Value) (n1 n2 n3 : Int) : But p w (four w p x n1 n2 n3) := ((((But.refl p w).set 0 _).set 1 _).set 2 _).set 3 _
theorem RAt.of {c : Nat} (h : RAt w c m) (hs : w.heap.size ≤ w'.heap.size) (hb : w'.heap[c]? = w.heap[c]?) : RAt w' c m := by
  have k1 : ∀ i, w'.cell? ⟨c, i, none⟩ = w.cell? ⟨c, i, none⟩ := fun i => World.cell?_of_block (w := w) (a := ⟨c, i, none⟩) hb
  refine ⟨Nat.lt_of_lt_of_le h.lt hs, fun i x hx => ?_⟩
  unfold RC
  rw [k1, k1, k1, k1, k1]
  exact h.cl i x hx
end
def T4 (m : M) (c cp : Nat) (x : Int × Int × Int) : Value := .tuple #[m.rv c cp, .int .i64 x.1, .int .i64 x.2.1, .int .i64 x.2.2]
theorem nth_40 (a b c d : Value) : nth 0 (.tuple #[a, b, c, d]) = a := rfl
theorem nth_41 (a b c d : Value) : nth 1 (.tuple #[a, b, c, d]) = b := rfl
theorem nth_42 (a b c d : Value) : nth 2 (.tuple #[a, b, c, d]) = c := rfl
theorem nth_43 (a b c d : Value) : nth 3 (.tuple #[a, b, c, d]) = d := rfl
/-- Within the region: bs tells whether One has come up, the new variable, the store into it. -/
def RMid (iC iA : Nat) (w : World) (rc : Nat) (m : M) (z : Aq) (tl : Int) (bs : List Bool) (β : Nat → Value) (W : World) : Prop := ∃ (c' cp' g : Nat),
  Below w.heap.size w W ∧
  (bs[0]? = some true → β iC = T4 ((z.q tl).on m).1 c' cp' (z.res tl ((z.q tl).on m).2) ∧ RAt W c' ((z.q tl).on m).1 ∧ (c' = rc ∨ w.heap.size ≤ c')) ∧
  (bs[1]? = some true → β iA = .pointer (some ⟨g, 0, none⟩) ∧ w.heap.size ≤ g ∧ g < W.heap.size ∧ W.there g 0 4) ∧
  (bs[0]? = some true → bs[1]? = some true → g ≠ c') ∧
  (bs[2]? = some true → W.rangeAt g 0 (((z.q tl).on m).1.row c' cp'))
theorem there_of {w w' : World} {p n : Nat} (h : w.there p 0 n) (hb : w'.heap[p]? = w.heap[p]?) : w'.there p 0 n := fun j hj => by
  rw [World.cell?_of_block (w := w) (a := ⟨p, 0 + j, none⟩) hb]
  simp only [World.frozen?, hb]
  exact h j hj
theorem new29 (w : World) : (Instr.alloc 29 true (.tuple #[])).run Tryd.prog w = .ok (.pointer (some ⟨w.heap.size, 0, none⟩)) (w.alloc (.cells #[.slice none 0 0, .int .i64 0, .int .i64 0, .int .i64 0] 29)) := by
  go_simp
section
variable {iC iA : Nat} {w : World} {rc cp : Nat} {m : M} {z : Aq} {tl : Int} {bs : List Bool} {β : Nat → Value} {W : World}
theorem rmid_start {β : Nat → Value} : RMid iC iA w rc m z tl [false, false, false] β w.drew := ⟨0, 0, 0, (Below.refl _ _).drew, fun e => (by cases e), fun e => (by cases e), fun e => (by cases e), fun e => (by cases e)⟩
theorem rmid_below (h : RMid iC iA w rc m z tl bs β W) : Below w.heap.size w W := by
  obtain ⟨_, _, _, h, _⟩ := h
  exact h
theorem rmid_nth (h : RMid iC iA w rc m z tl bs β W) (h0 : bs[0]? = some true) {k : Nat} (hk : k < 4) : (Instr.extract (β iC) k).run Tryd.prog W = .ok (nth k (β iC)) W := by
  obtain ⟨_, _, _, _, h, _⟩ := h
  rw [(h h0).1]
  match k, hk with
  | 0, _ => rfl
  | 1, _ => rfl
  | 2, _ => rfl
  | 3, _ => rfl
theorem rmid_one (hne : iA ≠ iC) (hA : RAt w rc m) (hO : m.Ok 2305843009213693952) (ha : 0 ≤ z.act ∧ z.act ≤ 255) (h : RMid iC iA w rc m z tl bs β W) (h2 : bs[2]? = some false) :
    Calls Tryd.prog 14 #[m.rv rc cp, z.v, .int .i64 tl] W fun e w' => ∃ u, e = .returned u ∧ RMid iC iA w rc m z tl (bs.set 0 true) (FreeV.upd β iC u) w' := by
  obtain ⟨c', cp', g, hb, _, hg, _, _⟩ := h
  have hrc := hA.lt
  refine (refone_any (hA.below hb hA.lt) hO z tl ha).mono ?_
  rintro e w' ⟨c2, cp2, rfl, r2, b2, hc2⟩
  have hs := hb.size
  refine ⟨_, rfl, c2, cp2, g, hb.trans (b2.mono hs), fun _ => ⟨by simp only [FreeV.upd, if_true]; rfl, r2, by omega⟩, fun e => ?_, fun _ e => ?_, fun e => ?_⟩
  · rw [List.getElem?_set_ne (by decide)] at e
    obtain ⟨k1, k2, k3, k4⟩ := hg e
    exact ⟨by rw [← k1]; simp only [FreeV.upd, if_neg hne], k2, Nat.lt_of_lt_of_le k3 b2.size, there_of k4 (b2.block g k3)⟩
  · rw [List.getElem?_set_ne (by decide)] at e
    obtain ⟨_, k2, k3, _⟩ := hg e
    omega
  · rw [List.getElem?_set_ne (by decide), h2] at e
    cases e
theorem rmid_alloc (hne : iC ≠ iA) (h : RMid iC iA w rc m z tl bs β W) (h2 : bs[2]? = some false) : ∃ u w', (Instr.alloc 29 true (.tuple #[])).run Tryd.prog W = .ok u w' ∧ RMid iC iA w rc m z tl (bs.set 1 true) (FreeV.upd β iA u) w' := by
  obtain ⟨c', cp', g, hb, hc, _, _, _⟩ := h
  have hb2 := (Below.refl W.heap.size W).alloc (Nat.le_refl _) (.cells #[.slice none 0 0, .int .i64 0, .int .i64 0, .int .i64 0] 29)
  refine ⟨_, _, new29 W, c', cp', W.heap.size, hb.trans (hb2.mono hb.size), fun e => ?_, fun _ => ⟨by simp only [FreeV.upd, if_true], hb.size, by simp, fun j hj => ?_⟩, fun e _ => ?_, fun e => ?_⟩
  · rw [List.getElem?_set_ne (by decide)] at e
    obtain ⟨k1, k2, k3⟩ := hc e
    exact ⟨by rw [← k1]; simp only [FreeV.upd, if_neg hne], k2.below hb2 k2.lt, k3⟩
  · rw [Nat.zero_add]
    refine ⟨?_, World.frozen?_alloc_at _ 29 _ j rfl⟩
    match j, hj with
    | 0, _ => rw [alloc_cell _ _ _ 0 _ rfl]; rfl
    | 1, _ => rw [alloc_cell _ _ _ 1 _ rfl]; rfl
    | 2, _ => rw [alloc_cell _ _ _ 2 _ rfl]; rfl
    | 3, _ => rw [alloc_cell _ _ _ 3 _ rfl]; rfl
  · rw [List.getElem?_set_ne (by decide)] at e
    have := (hc e).2.1.lt
    omega
  · rw [List.getElem?_set_ne (by decide), h2] at e
    cases e
theorem rmid_store (h : RMid iC iA w rc m z tl bs β W) (h0 : bs[0]? = some true) (h1 : bs[1]? = some true) : ∃ w', (Instr.storeAt 29 (β iA) (nth 0 (β iC))).run Tryd.prog W = .ok () w' ∧ RMid iC iA w rc m z tl (bs.set 2 true) β w' := by
  obtain ⟨c', cp', g, hb, hc, hg, hn, _⟩ := h
  obtain ⟨eC, rA, hcc⟩ := hc h0
  obtain ⟨eA, g1, g2, g3⟩ := hg h1
  have hgc := hn h0 h1
  unfold RMid
  generalize ((z.q tl).on m).1 = m' at *
  have hsame : ∀ k, k ≠ g → (W.setCells g 0 (m'.row c' cp')).heap[k]? = W.heap[k]? := fun k hk => by
    show (four W g _ _ _ _).heap[k]? = _
    unfold four
    rw [Below.heap_setCell _ _ _ _ hk, Below.heap_setCell _ _ _ _ hk, Below.heap_setCell _ _ _ _ hk, Below.heap_setCell _ _ _ _ hk]
  have hsz2 : (W.setCells g 0 (m'.row c' cp')).heap.size = W.heap.size := by
    show (four W g _ _ _ _).heap.size = _
    unfold four
    simp [World.setCell]
  have hst := run_storeAt_mid (P := Tryd.prog) W g 0 29 (m'.row c' cp').toArray g3 size31 (by
    simp only [Array.all_eq_true', M.row]
    intro v hv
    simp at hv
    rcases hv with rfl | rfl | rfl | rfl <;> rfl)
  have hbb : Below w.heap.size W (W.setCells g 0 (m'.row c' cp')) := by
    show Below w.heap.size W (four W g _ _ _ _)
    unfold four
    exact (((((Below.refl _ _).setCell (p := ⟨g, 0, none⟩) g1 _).setCell (p := ⟨g, 1, none⟩) g1 _).setCell (p := ⟨g, 2, none⟩) g1 _).setCell (p := ⟨g, 3, none⟩) g1 _)
  refine ⟨W.setCells g 0 (m'.row c' cp'), ?_, c', cp', g, hb.trans hbb, fun _ => ⟨eC, rA.of (by omega) (hsame c' hgc.symm), hcc⟩, fun _ => ⟨eA, g1, by omega, World.there_setCells g3 _ _ _⟩, fun _ _ => hgc, fun _ => World.rangeAt_setCells_same W g 0 (m'.row c' cp') g3⟩
  rw [eA, eC]
  exact hst
/-- The region's end. -/
theorem rmid_end (h : RMid iC iA w rc m z tl [true, true, true] β W) : ∃ (c' cp' g : Nat), Below w.heap.size w W ∧ β iC = T4 ((z.q tl).on m).1 c' cp' (z.res tl ((z.q tl).on m).2) ∧ RAt W c' ((z.q tl).on m).1 ∧ (c' = rc ∨ w.heap.size ≤ c') ∧ β iA = .pointer (some ⟨g, 0, none⟩) ∧ w.heap.size ≤ g ∧ g < W.heap.size ∧ g ≠ c' ∧ W.rangeAt g 0 (((z.q tl).on m).1.row c' cp') := by
  obtain ⟨c', cp', g, hb, hc, hg, hn, hr⟩ := h
  obtain ⟨eC, rA, hcc⟩ := hc rfl
  obtain ⟨eA, g1, g2, _⟩ := hg rfl
  exact ⟨c', cp', g, hb, eC, rA, hcc, eA, g1, g2, hn rfl rfl, hr rfl⟩
end
theorem enter_14 (xs : Array Value) (w : World) : (callFunc 14 xs).run Tryd.prog w = .ok (.enter 14 xs) w := by kernel_rfl
theorem enter_15 (xs : Array Value) (w : World) : (callFunc 15 xs).run Tryd.prog w = .ok (.enter 15 xs) w := by kernel_rfl
theorem enter_16 (xs : Array Value) (w : World) : (callFunc 16 xs).run Tryd.prog w = .ok (.enter 16 xs) w := by kernel_rfl
theorem enter_11 (xs : Array Value) (w : World) : (callFunc 11 xs).run Tryd.prog w = .ok (.enter 11 xs) w := by kernel_rfl
theorem enter_12 (xs : Array Value) (w : World) : (callFunc 12 xs).run Tryd.prog w = .ok (.enter 12 xs) w := by kernel_rfl
theorem enter_13 (xs : Array Value) (w : World) : (callFunc 13 xs).run Tryd.prog w = .ok (.enter 13 xs) w := by kernel_rfl
theorem enter_17 (xs : Array Value) (w : World) : (callFunc 17 xs).run Tryd.prog w = .ok (.enter 17 xs) w := by kernel_rfl
theorem enter_18 (xs : Array Value) (w : World) : (callFunc 18 xs).run Tryd.prog w = .ok (.enter 18 xs) w := by kernel_rfl
theorem enter_21 (xs : Array Value) (w : World) : (callFunc 21 xs).run Tryd.prog w = .ok (.enter 21 xs) w := by kernel_rfl
end Go.Proofs.YthdcilbbllldiaaDoor
