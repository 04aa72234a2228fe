/- Rows of the reference's cells: a copy of the call's own, what a store makes of it; the reference's New and free. Conditions: at most 65535 cells; generations are between 0 and 16384; live cells are below 2 to the 61. -/
import Derived.Test.YthdcilbbllldiaaDoorRefC
namespace Go.Proofs.YthdcilbbllldiaaDoor
open Go.RowKit Go.Op
set_option maxRecDepth 100000

def cRow (l : List Cl) : List Value := l.flatMap Cl.row
theorem cRow_cons (e : Cl) (l : List Cl) : cRow (e :: l) = e.row ++ cRow l := by simp [cRow]
theorem cRow_length : ∀ l : List Cl, (cRow l).length = l.length * 5
  | [] => rfl
  | e :: l => by
    rw [cRow_cons, List.length_append, cRow_length l, List.length_cons]
    simp only [Cl.row, List.length_cons, List.length_nil]
    omega
theorem cRow_get : ∀ (l : List Cl) (k : Nat) (hk : k < l.length) (j : Nat), j < 5 → (cRow l)[k * 5 + j]? = ((l[k]'hk).row)[j]?
  | [], _, hk, _, _ => by simp at hk
  | e :: l, 0, _, j, hj => by
    rw [cRow_cons, Nat.zero_mul, Nat.zero_add, List.getElem?_append_left (by simpa [Cl.row] using hj)]
    rfl
  | e :: l, k + 1, hk, j, hj => by
    have ih := cRow_get l k (by simpa using hk) j hj
    rw [cRow_cons, show (k + 1) * 5 + j = (k * 5 + j) + 5 by omega, List.getElem?_append_right (by simp [Cl.row])]
    simp only [Cl.row, List.length_cons, List.length_nil, List.getElem_cons_succ]
    rw [show k * 5 + j + 5 - (0 + 1 + 1 + 1 + 1 + 1) = k * 5 + j by omega]
    exact ih
theorem c_one {l : List Cl} : ∀ u ∈ cRow l, u.oneCell' = true := by
  intro u hu
  simp only [cRow, List.mem_flatMap, Cl.row] at hu
  obtain ⟨e, _, he⟩ := hu
  simp at he
  rcases he with rfl | rfl | rfl | rfl | rfl <;> rfl
theorem rc_news {w : World} {c : Nat} {L : List Cl} (h : RCells w c L) : ∀ j u, (cRow L)[j]? = some u → w.cell? ((⟨c, 0, none⟩ : Addr).add j) = some u := by
  intro j u hu
  have hj := (List.getElem?_eq_some_iff.1 hu).1
  rw [cRow_length] at hj
  have hk : j / 5 < L.length := by omega
  obtain ⟨k0, k1, k2, k3, k4⟩ := h (j / 5) _ (List.getElem?_eq_getElem hk)
  have hr : j % 5 < 5 := Nat.mod_lt _ (by decide)
  have hg := cRow_get L (j / 5) hk (j % 5) hr
  rw [show j / 5 * 5 + j % 5 = j by omega, hu] at hg
  rw [add_off, Nat.zero_add, show j = j / 5 * 5 + j % 5 by omega]
  have hjj : j / 5 * 5 + j % 5 = j := by omega
  generalize L[j / 5] = x at *
  generalize j / 5 = q at *
  generalize j % 5 = r at *
  match r, hr with
  | 0, _ => rw [hg]; exact k0
  | 1, _ => rw [hg]; exact k1
  | 2, _ => rw [hg]; exact k2
  | 3, _ => rw [hg]; exact k3
  | 4, _ => rw [hg]; exact k4
/-- A row of cells that may be stored into. -/
structure RB (w : World) (g : Nat) (L : List Cl) : Prop where
  lt : g < w.heap.size
  cl : RCells w g L
  fz : ∀ i, w.frozen? ⟨g, i, none⟩ = false
theorem RC.other {w : World} {c o : Nat} {x : Cl} (h : RC w c o x) {p i : Nat} (hp : p ≠ c ∨ i < o ∨ o + 5 ≤ i) (u : Value) : RC (w.setCell ⟨p, i, none⟩ u) c o x :=
  ⟨set_other h.1 (by omega), set_other h.2.1 (by omega), set_other h.2.2.1 (by omega), set_other h.2.2.2.1 (by omega), set_other h.2.2.2.2 (by omega)⟩
theorem RB.other {w : World} {g : Nat} {L : List Cl} (h : RB w g L) {p : Nat} (hp : p ≠ g) (i : Nat) (u : Value) : RB (w.setCell ⟨p, i, none⟩ u) g L :=
  ⟨by have e : (w.setCell ⟨p, i, none⟩ u).heap.size = w.heap.size := by simp [World.setCell]
      rw [e]; exact h.lt, fun k x hx => (h.cl k x hx).other (.inl hp) u, fun i => by rw [World.frozen?_setCell]; exact h.fz i⟩
theorem RB.put {w : World} {g : Nat} {L : List Cl} (h : RB w g L) {i : Nat} {y : Cl} {o : Nat} (ho : i * 5 ≤ o ∧ o < i * 5 + 5) {u : Value} (hy : RC (w.setCell ⟨g, o, none⟩ u) g (i * 5) y) : RB (w.setCell ⟨g, o, none⟩ u) g (L.set i y) := by
  refine ⟨by have e : (w.setCell ⟨g, o, none⟩ u).heap.size = w.heap.size := by simp [World.setCell]
             rw [e]; exact h.lt, fun k z hz => ?_, fun i => by rw [World.frozen?_setCell]; exact h.fz i⟩
  rw [List.getElem?_set] at hz
  split at hz
  · rename_i e
    subst e
    split at hz
    · cases hz; exact hy
    · cases hz
  · rename_i e
    exact (h.cl k z hz).other (.inr (by omega)) u
theorem RB.at_ {w : World} {g : Nat} {m : M} (h : RB w g m.cells) : RAt w g m := ⟨h.lt, h.cl⟩
theorem info79 : (Tryd.prog.info? 103).map (fun i => (i.zero, i.size, i.bytes)) = some (some (.agg #[.int .i64 0, .int .i64 0, .int .i64 0, .int .i64 0, .bool false]), 5, 40) := by kernel_rfl
theorem RB.of_own {w : World} {B g cap : Nat} {L : List Cl} (h : w.ownsRow B 103 5 (.slice (some ⟨g, 0, none⟩) L.length cap) L.length (cRow L)) : RB w g L ∧ B ≤ g := by
  have hl := World.ownsRow.lt h g rfl
  refine ⟨⟨hl.2, fun i x hx => ?_, fun i => World.ownsRow.frozenAt h i⟩, hl.1⟩
  have hi := (List.getElem?_eq_some_iff.1 hx).1
  have hxi : L[i] = x := (List.getElem?_eq_some_iff.1 hx).2
  have hc : ∀ j v, j < 5 → (x.row)[j]? = some v → w.cell? ⟨g, i * 5 + j, none⟩ = some v := fun j v hj hv => by
    have h1 := cRow_get L i hi j hj
    rw [hxi, hv] at h1
    have := World.ownsRow.cells h (g := g) rfl (i * 5 + j) v h1
    rw [add_off, Nat.zero_add] at this
    exact this
  exact ⟨hc 0 _ (by decide) rfl, hc 1 _ (by decide) rfl, hc 2 _ (by decide) rfl, hc 3 _ (by decide) rfl, hc 4 _ (by decide) rfl⟩
/-- append([]Cell{}, l...): a copy. -/
theorem append_cells {ops : Array Oper} {rest : List Oper} {o : Oper} {a : Act} {w : World} {Q : Exit → Act → World → Prop}
    (hg : o.guard = none) (s x : Operand) (hop : o.op = Op.call { callee := Callee.builtin Builtin.append, args := #[s, x], argTypes := #[27, 27] })
    {N : Nat} (hs : a.eval s = .slice (some ⟨N, 0, none⟩) 0 0) (hN : N = w.heap.size) (c cap : Nat) (L : List Cl) (hx : a.eval x = .slice (some ⟨c, 0, none⟩) L.length cap) (hR : RCells w c L) (hc : c < w.heap.size) (hl : L.length ≤ 65535)
    (hK : ∀ g' cap' w', RB w' g' L → w.heap.size ≤ g' → Below w.heap.size w w' → wpList Tryd.prog ops Q rest (a.put o.dst (.slice (some ⟨g', 0, none⟩) L.length cap')) w') :
    wpList Tryd.prog ops Q (o :: rest) a (w.alloc (.cells #[] 103)) := by
  subst hN
  obtain ⟨i0, hi, hz0, hz1, hz2⟩ := info_parts info79
  have hown : (w.alloc (.cells #[] 103)).ownsRow w.heap.size 103 5 (.slice (some ⟨w.heap.size, 0, none⟩) 0 0) 0 [] := World.ownsRow_made w #[] 0 (Nat.le_refl _) (Nat.zero_le _) rfl
  have hb0 : Below w.heap.size w (w.alloc (.cells #[] 103)) := (Below.refl _ _).alloc (Nat.le_refl _) _
  have hR2 : RCells (w.alloc (.cells #[] 103)) c L := fun i y hy => by
    have k1 : ∀ i, (w.alloc (.cells #[] 103)).cell? ⟨c, i, none⟩ = w.cell? ⟨c, i, none⟩ := fun i => hb0.cell (p := ⟨c, i, none⟩) hc
    unfold RC
    rw [k1, k1, k1, k1, k1]
    exact hR i y hy
  refine wpList_append_own_at _ hg s x 27 hop w.heap.size 103 i0 _ 5 40 Tryd.underlying27 hi hz0 hz1 hz2 rfl (by decide) _ 0 [] hs hown ⟨c, 0, none⟩ L.length cap (cRow L) hx (cRow_length L) (rc_news hR2) c_one (by unfold maxLen; omega) (by omega) (by simp) ?_
  intro v' w' h1 h2 h3 _
  rw [Nat.zero_add, List.nil_append] at h1
  have hbw : Below w.heap.size (w.alloc (.cells #[] 103)) w' := (Below.refl _ _).grown h2 (by simp) (fun k hk => by cases hk; exact Nat.le_refl _)
  rcases h1.2 with ⟨rfl, _⟩ | ⟨g, cp, cur, rfl, _⟩
  · have := (h3.1 rfl).1
    cases this
  · obtain ⟨hrb, hge⟩ := RB.of_own h1
    exact hK g cp w' hrb hge (hb0.trans hbw)

theorem refcells_new (w : World) (n : Nat) : RAt (w.alloc (.cells (madeCells (Value.agg #[.int .i64 0, .int .i64 0, .int .i64 0, .int .i64 0, .bool false]).cells (n * 5)) 103)) w.heap.size (M.new n) := by
  refine ⟨by simp, fun i x hx => ?_⟩
  have hi : i < n := by simpa [M.new] using (List.getElem?_eq_some_iff.1 hx).1
  have hx2 : x = ⟨.no, 0, false, 0⟩ := by
    simp only [M.new, List.getElem?_replicate, if_pos hi, Option.some.injEq] at hx
    exact hx.symm
  subst hx2
  have hc : ∀ k, k < 5 → (w.alloc (.cells (madeCells (Value.agg #[.int .i64 0, .int .i64 0, .int .i64 0, .int .i64 0, .bool false]).cells (n * 5)) 103)).cell? ⟨w.heap.size, i * 5 + k, none⟩ = some ((Value.agg #[.int .i64 0, .int .i64 0, .int .i64 0, .int .i64 0, .bool false]).cells[k]!) := by
    intro k hk
    rw [World.cell?_alloc_new]
    have e : (Value.agg #[.int .i64 0, .int .i64 0, .int .i64 0, .int .i64 0, .bool false]).cells.size = 5 := rfl
    simp only [madeCells, Array.getElem?_map, Array.getElem?_range, show i * 5 + k < n * 5 by omega, if_true, Option.map_some, e, show (i * 5 + k) % 5 = k by omega]
  exact ⟨hc 0 (by omega), hc 1 (by omega), hc 2 (by omega), hc 3 (by omega), hc 4 (by omega)⟩
theorem make_ref (w : World) (n : Nat) (hn : n ≤ 65535) : (Instr.makeSlice 27 (.int .i64 (n : Int)) (.int .i64 (n : Int))).run Tryd.prog w = .ok (.slice (some ⟨w.heap.size, 0, none⟩) n n) (w.alloc (.cells (madeCells (Value.agg #[.int .i64 0, .int .i64 0, .int .i64 0, .int .i64 0, .bool false]).cells (n * 5)) 103)) := by
  obtain ⟨i0, hi, hz0, hz1, hz2⟩ := info_parts info79
  have hr := run_make (P := Tryd.prog) w 27 103 i0 _ Tryd.underlying27 hi hz0 .i64 .i64 (n : Int) (n : Int) (by omega) (by omega) (by rw [hz2]; omega) (by omega)
  simp only [Int.toNat_natCast, hz1] at hr
  exact hr
/-- A new memory of the document. -/
def RNew (w : World) (m : M) (e : Ending) (w' : World) : Prop := ∃ c cap, e = .returned (m.rv c cap) ∧ RAt w' c m ∧ Below w.heap.size w w' ∧ w.heap.size ≤ c
theorem refnew_any (w : World) (n : Nat) (hn : n ≤ 65535) : Calls Tryd.prog 8 #[.int .i64 (n : Int)] w fun e w' => RNew w (M.new n) e w' := by
  have g1 := fun w => make_ref w n hn
  go_enter Tryd.func8, Tryd.ntmps8
  go_wp2_with fail
  have hs : (w.alloc (Obj.cells #[Value.slice (some ⟨w.heap.size + 1, 0, none⟩) n n, Value.int IntKind.i64 0, Value.int IntKind.i64 0, Value.int IntKind.i64 0] 29)).heap.size = w.heap.size + 1 := by simp
  have hR := refcells_new (w.alloc (Obj.cells #[Value.slice (some ⟨w.heap.size + 1, 0, none⟩) n n, Value.int IntKind.i64 0, Value.int IntKind.i64 0, Value.int IntKind.i64 0] 29)) n
  have hb1 : Below w.heap.size w (w.alloc (Obj.cells #[Value.slice (some ⟨w.heap.size + 1, 0, none⟩) n n, Value.int IntKind.i64 0, Value.int IntKind.i64 0, Value.int IntKind.i64 0] 29)) := (Below.refl _ _).alloc (Nat.le_refl _) _
  have hb2 := (Below.refl (w.heap.size + 1) (w.alloc (Obj.cells #[Value.slice (some ⟨w.heap.size + 1, 0, none⟩) n n, Value.int IntKind.i64 0, Value.int IntKind.i64 0, Value.int IntKind.i64 0] 29))).alloc (by simp) (Obj.cells (madeCells #[Value.int IntKind.i64 0, Value.int IntKind.i64 0, Value.int IntKind.i64 0, Value.int IntKind.i64 0, Value.bool false] (n * 5)) 103)
  rw [hs] at hR
  have hl : (M.new n).cells.length = n := by simp [M.new]
  refine bodyPost_ret (results_cell1 Tryd.results8 rfl (run_loadVar_mid _ w.heap.size 0 29 [.slice (some ⟨w.heap.size + 1, 0, none⟩) n n, .int .i64 0, .int .i64 0, .int .i64 0] _ (fun j v hj => ?_) Tryd.underlying29 rfl size31)) rfl ⟨w.heap.size + 1, n, ?_, hR, hb1.trans (hb2.mono (by omega)), by omega⟩
  · rw [Nat.zero_add, hb2.cell (p := ⟨w.heap.size, j, none⟩) (Nat.lt_succ_self _)]
    exact alloc_cell _ _ _ j v (by simpa using hj)
  · unfold M.rv
    rw [hl]
    rfl
end Go.Proofs.YthdcilbbllldiaaDoor
