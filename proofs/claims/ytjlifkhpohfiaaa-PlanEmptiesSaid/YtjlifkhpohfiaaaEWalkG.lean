/- What rev.lay answers of any entries: the revision, in blocks of the call's own. Conditions: at most 500 entries, each key of at most 1000000 bytes, which stand in memory. -/
import Derived.Test.YtjlifkhpohfiaaaEWalkD
import Derived.Deep.MidRow
namespace Go.Proofs.Ytjlifkhpohfiaaa
open Go.RowKit Go.Op
set_option maxRecDepth 100000

theorem info4 : (Try.prog.info? 4).map (fun i => (i.zero, i.size, i.bytes)) = some (some (.bool false), 1, 1) := by kernel_rfl
theorem info9 : (Try.prog.info? 9).map (fun i => (i.zero, i.size, i.bytes)) = some (some (.string ⟨#[]⟩), 1, 16) := by kernel_rfl
/-- Values in a block of the call's own. -/
structure Col (w : World) (g : Nat) (T : List Value) : Prop where
  lt : g < w.heap.size
  cell : ∀ i (h : i < T.length), w.cell? ⟨g, i, none⟩ = some (T[i]'h)
  free : ∀ i, i < T.length → w.frozen? ⟨g, i, none⟩ = false
theorem Col.below {w w' : World} {g : Nat} {T : List Value} (h : Col w g T) (hb : Below w.heap.size w w') : Col w' g T :=
  ⟨Nat.lt_of_lt_of_le h.lt hb.size, fun i hi => by rw [hb.cell (p := ⟨g, i, none⟩) h.lt]; exact h.cell i hi, fun i hi => by rw [hb.frozen (p := ⟨g, i, none⟩) h.lt]; exact h.free i hi⟩
theorem Col.drew {w : World} {g : Nat} {T : List Value} (h : Col w g T) : Col w.drew g T := ⟨h.lt, h.cell, h.free⟩
theorem Col.set {w : World} {g : Nat} {T : List Value} (h : Col w g T) {p : Nat} (hp : p < T.length) (v : Value) : Col (w.setCell ⟨g, p, none⟩ v) g (T.set p v) := by
  refine ⟨?_, fun i hi => ?_, fun i hi => ?_⟩
  · rw [show (w.setCell ⟨g, p, none⟩ v).heap.size = w.heap.size by simp [World.setCell]]; exact h.lt
  · have hi2 := hi
    rw [List.length_set] at hi2
    by_cases e : i = p
    · subst e
      rw [World.cell?_setCell_same w ⟨g, i, none⟩ _ (h.cell i hi2), List.getElem_set_self]
    · rw [World.cell?_setCell_other w ⟨g, p, none⟩ ⟨g, i, none⟩ _ (by simp only [ne_eq, Addr.mk.injEq, true_and, and_true]; omega), h.cell i hi2, List.getElem_set_ne (by omega)]
  · rw [World.frozen?_setCell]
    rw [List.length_set] at hi
    exact h.free i hi
theorem Col.other {w : World} {g : Nat} {T : List Value} (h : Col w g T) {p o : Nat} (hp : g ≠ p) (v : Value) : Col (w.setCell ⟨p, o, none⟩ v) g T := by
  refine ⟨?_, fun i hi => ?_, fun i hi => ?_⟩
  · rw [show (w.setCell ⟨p, o, none⟩ v).heap.size = w.heap.size by simp [World.setCell]]; exact h.lt
  · rw [World.cell?_setCell_other w ⟨p, o, none⟩ ⟨g, i, none⟩ _ (by simp only [ne_eq, Addr.mk.injEq, and_true, not_and]; intro e; exact absurd e.symm hp)]
    exact h.cell i hi
  · rw [World.frozen?_setCell]
    exact h.free i hi
theorem made_col (w : World) (m : Nat) (hm : m ≤ 1000000) (t e : TypeId) (z : Value) (hte : (t = 47 ∧ e = 9 ∧ z = .string ⟨#[]⟩) ∨ (t = 48 ∧ e = 4 ∧ z = .bool false)) :
    (Instr.makeSlice t (.int .i64 (m : Int)) (.int .i64 (m : Int))).run Try.prog w = .ok (.slice (some ⟨w.heap.size, 0, none⟩) m m) (w.alloc (.cells (madeCells #[z] m) e)) := by
  rcases hte with ⟨rfl, rfl, rfl⟩ | ⟨rfl, rfl, rfl⟩
  · obtain ⟨i0, hi, hz0, hz1, hz2⟩ := info_parts info9
    have hr := run_make (P := Try.prog) w 47 9 i0 _ Try.underlying47 hi hz0 .i64 .i64 (m : Int) (m : Int) (by omega) (by omega) (by rw [hz2]; omega) (by omega)
    simp only [Int.toNat_natCast, hz1, Nat.mul_one] at hr
    exact hr
  · obtain ⟨i0, hi, hz0, hz1, hz2⟩ := info_parts info4
    have hr := run_make (P := Try.prog) w 48 4 i0 _ Try.underlying48 hi hz0 .i64 .i64 (m : Int) (m : Int) (by omega) (by omega) (by rw [hz2]; omega) (by omega)
    simp only [Int.toNat_natCast, hz1, Nat.mul_one] at hr
    exact hr
theorem col_new (w : World) (m : Nat) (e : TypeId) (z : Value) : Col (w.alloc (.cells (madeCells #[z] m) e)) w.heap.size (List.replicate m z) := by
  refine ⟨by simp, fun i hi => ?_, fun i _ => ?_⟩
  · rw [List.length_replicate] at hi
    rw [World.cell?_alloc_new]
    simp [madeCells, hi, Nat.mod_one]
  · exact World.frozen?_alloc_at _ e _ i rfl

theorem made_eq (m : Nat) (z : Value) : madeCells #[z] m = (List.replicate m z).toArray := by
  apply Array.ext
  · simp [madeCells]
  · intro i h1 h2
    simp [madeCells, Nat.mod_one]
theorem made_list (m : Nat) (hm : m ≤ 1000000) (t e : TypeId) (z : Value) (hte : (t = 47 ∧ e = 9 ∧ z = .string ⟨#[]⟩) ∨ (t = 48 ∧ e = 4 ∧ z = .bool false)) (w : World) :
    (Instr.makeSlice t (.int .i64 (m : Int)) (.int .i64 (m : Int))).run Try.prog w = .ok (.slice (some ⟨w.heap.size, 0, none⟩) m m) (w.alloc (.cells (List.replicate m z).toArray e)) := by
  rw [← made_eq]
  exact made_col w m hm t e z hte
theorem col_holds {w : World} {g : Nat} {T : List Value} (h : Free.Holds g T w) (hl : g < w.heap.size) : Col w g T :=
  ⟨hl, fun i hi => (h i _ (List.getElem?_eq_getElem hi)).1, fun i hi => (h i _ (List.getElem?_eq_getElem hi)).2⟩

/-- A cut behind a region. -/
theorem cut_region {P : Program} {c : Code} {Q : Exit → Act → World → Prop} {a : Act} {w : World} (R : Act → Act → World → Prop) (h1 : c.wp P (fun ex a' w' => ex = .normal ∧ R a a' w') a w) (h2 : ∀ a' w', R a a' w' → Q .normal a' w') : c.wp P Q a w :=
  Code.wp_mono (fun ex a' w' h => by obtain ⟨rfl, h⟩ := h; exact h2 a' w' h) h1
theorem cut_region2 {P : Program} {c : Code} {Q : Exit → Act → World → Prop} {a : Act} {w : World} (R : Act → Act → World → Prop) (h1 : ∀ R' : Act → World → Prop, Hid (∀ a' w', R a a' w' → R' a' w') → c.wp P (fun ex a' w' => ex = .normal ∧ R' a' w') a w) (h2 : ∀ a' w', R a a' w' → Q .normal a' w') : c.wp P Q a w :=
  Code.wp_mono (fun ex a' w' h => by obtain ⟨rfl, h⟩ := h; exact h2 a' w' h) (h1 (R a) (Lib.hid fun _ _ h => h))
theorem Col.alloc {w : World} {g : Nat} {T : List Value} (h : Col w g T) (o : Obj) : Col (w.alloc o) g T := h.below ((Below.refl _ _).alloc (Nat.le_refl _) _)
theorem col_at (w : World) (m : Nat) (e : TypeId) (z : Value) (g : Nat) (hg : g = w.heap.size) : Col (w.alloc (.cells (madeCells #[z] m) e)) g (List.replicate m z) := by
  subst hg
  exact col_new w m e z
/-- Blocks that are apart, above a bound. -/
structure Apart (B g1 g2 g3 p : Nat) : Prop where
  n12 : g1 ≠ g2
  n13 : g1 ≠ g3
  n23 : g2 ≠ g3
  p1 : p ≠ g1
  p2 : p ≠ g2
  p3 : p ≠ g3
  l1 : B ≤ g1
  l2 : B ≤ g2
  l3 : B ≤ g3
  lp : B ≤ p
/-- A revision's columns, and the variable that holds their slices. -/
structure Cols (B : Nat) (w0 W : World) (g1 g2 g3 p : Nat) (row K V G : List Value) : Prop where
  c1 : Col W g1 K
  c2 : Col W g2 V
  c3 : Col W g3 G
  cp : Free.Holds p row W
  pl : p < W.heap.size
  b : Below B w0 W
theorem holds_other {b q o : Nat} {zs : List Value} {w : World} {v : Value} (h : Free.Holds q zs w) (hq : q ≠ b) : Free.Holds q zs (w.setCell ⟨b, o, none⟩ v) := fun k x hk => by
  obtain ⟨h1, h2⟩ := h k x hk
  refine ⟨?_, by rw [World.frozen?_setCell]; exact h2⟩
  rw [World.cell?_setCell_other w ⟨b, o, none⟩ ⟨q, k, none⟩ _ (by simp only [ne_eq, Addr.mk.injEq, and_true, not_and]; intro e; exact absurd e.symm hq)]
  exact h1
section
variable {B : Nat} {w0 W : World} {g1 g2 g3 p : Nat} {row K V G : List Value}
theorem Cols.set1 (h : Cols B w0 W g1 g2 g3 p row K V G) (hA : Apart B g1 g2 g3 p) {i : Nat} (hi : i < K.length) (x : Value) : Cols B w0 (W.setCell ⟨g1, i, none⟩ x) g1 g2 g3 p row (K.set i x) V G :=
  ⟨h.c1.set hi x, h.c2.other (Ne.symm hA.n12) x, h.c3.other (Ne.symm hA.n13) x, holds_other h.cp hA.p1, by rw [show (W.setCell ⟨g1, i, none⟩ x).heap.size = W.heap.size by simp [World.setCell]]; exact h.pl, h.b.setCell (p := ⟨g1, i, none⟩) hA.l1 x⟩
theorem Cols.set2 (h : Cols B w0 W g1 g2 g3 p row K V G) (hA : Apart B g1 g2 g3 p) {i : Nat} (hi : i < V.length) (x : Value) : Cols B w0 (W.setCell ⟨g2, i, none⟩ x) g1 g2 g3 p row K (V.set i x) G :=
  ⟨h.c1.other hA.n12 x, h.c2.set hi x, h.c3.other (Ne.symm hA.n23) x, holds_other h.cp hA.p2, by rw [show (W.setCell ⟨g2, i, none⟩ x).heap.size = W.heap.size by simp [World.setCell]]; exact h.pl, h.b.setCell (p := ⟨g2, i, none⟩) hA.l2 x⟩
theorem Cols.set3 (h : Cols B w0 W g1 g2 g3 p row K V G) (hA : Apart B g1 g2 g3 p) {i : Nat} (hi : i < G.length) (x : Value) : Cols B w0 (W.setCell ⟨g3, i, none⟩ x) g1 g2 g3 p row K V (G.set i x) :=
  ⟨h.c1.other hA.n13 x, h.c2.other hA.n23 x, h.c3.set hi x, holds_other h.cp hA.p3, by rw [show (W.setCell ⟨g3, i, none⟩ x).heap.size = W.heap.size by simp [World.setCell]]; exact h.pl, h.b.setCell (p := ⟨g3, i, none⟩) hA.l3 x⟩
theorem holds_below {b : Nat} {zs : List Value} {w w' : World} (h : Free.Holds b zs w) (hb : Below w.heap.size w w') (hlt : b < w.heap.size) : Free.Holds b zs w' := h.below hb hlt
theorem Cols.below (h : Cols B w0 W g1 g2 g3 p row K V G) {W' : World} (hb : Below W.heap.size W W') (hB : B ≤ W.heap.size) : Cols B w0 W' g1 g2 g3 p row K V G :=
  ⟨h.c1.below hb, h.c2.below hb, h.c3.below hb, h.cp.below hb h.pl, Nat.lt_of_lt_of_le h.pl hb.size, h.b.trans (hb.mono hB)⟩
theorem Cols.drew (h : Cols B w0 W g1 g2 g3 p row K V G) : Cols B w0 W.drew g1 g2 g3 p row K V G := ⟨h.c1.drew, h.c2.drew, h.c3.drew, h.cp, h.pl, drew_below h.b⟩
end
theorem holds_cells {w : World} {p : Nat} {row : List Value} {t : TypeId} (h : w.heap[p]? = some (.cells row.toArray t (0, 0))) : Free.Holds p row w := fun k v hk => by
  refine ⟨?_, frozen_of_row w p k _ t h⟩
  rw [cell_of_row w p k _ t (0, 0) h]
  simpa using hk
theorem col_next {l : List En} {K : List Value} {i : Nat} (f : En → Value) (hi : i < l.length) (hK : K.length = l.length) (h : K.take i = (l.map f).take i) : (K.set i (f l[i])).take (i + 1) = (l.map f).take (i + 1) := by
  rw [List.take_succ_eq_append_getElem (by rw [List.length_set]; omega), List.getElem_set_self, List.take_set_of_le (Nat.le_refl i), h, List.take_succ_eq_append_getElem (by rw [List.length_map]; exact hi), List.getElem_map]
theorem col_end {l : List En} {K : List Value} (f : En → Value) (hK : K.length = l.length) (h : K.take l.length = (l.map f).take l.length) : K = l.map f := by
  rwa [List.take_of_length_le (by omega), List.take_of_length_le (by rw [List.length_map]; exact Nat.le_refl _)] at h
def kf (e : En) : Value := .string e.key
def vf (e : En) : Value := .string e.val
def gf (e : En) : Value := .bool e.gone
theorem col_keys {w : World} {g : Nat} {l : List En} (h : Col w g (l.map kf)) : Keys w (some ⟨g, 0, none⟩) (l.map En.key) :=
  .inr ⟨g, 0, rfl, h.lt, fun k hk => by
    rw [List.length_map] at hk
    rw [Nat.zero_add, h.cell k (by rw [List.length_map]; exact hk), List.getElem_map, List.getElem_map]
    rfl⟩
theorem col_vals {w : World} {g : Nat} {l : List En} (h : Col w g (l.map vf)) : Keys w (some ⟨g, 0, none⟩) (l.map En.val) :=
  .inr ⟨g, 0, rfl, h.lt, fun k hk => by
    rw [List.length_map] at hk
    rw [Nat.zero_add, h.cell k (by rw [List.length_map]; exact hk), List.getElem_map, List.getElem_map]
    rfl⟩
theorem col_gone {w : World} {g : Nat} {l : List En} (h : Col w g (l.map gf)) : Bools w (some ⟨g, 0, none⟩) (l.map En.gone) :=
  .inr ⟨g, 0, rfl, h.lt, fun k hk => by
    rw [List.length_map] at hk
    rw [Nat.zero_add, h.cell k (by rw [List.length_map]; exact hk), List.getElem_map, List.getElem_map]
    rfl⟩
theorem size33 : (Try.prog.info? 50).map (·.size) = some 10 := by kernel_rfl
theorem holds_there {b : Nat} {zs : List Value} {w : World} (h : Free.Holds b zs w) : w.there b 0 zs.length := fun j hj => by
  obtain ⟨h1, h2⟩ := h j _ (List.getElem?_eq_getElem hj)
  rw [Nat.zero_add]
  exact ⟨by rw [h1]; rfl, h2⟩
theorem holds_range {b : Nat} {zs : List Value} {w : World} (h : Free.Holds b zs w) : w.rangeAt b 0 zs := fun j v hj => by
  rw [Nat.zero_add]
  exact (h j v hj).1
/-- A store and a load by what they do. -/
theorem wpList_run_store {ops : Array Oper} {rest : List Oper} {op : Oper} {a : Act} {w : World} {Q : Exit → Act → World → Prop} (hgd : op.guard = none) (ty : TypeId) (x y : Operand) (ho : op.op = .store ty x y)
    (p v : Value) (hx : a.eval x = p) (hy : a.eval y = v) (W : World) (hr : (Instr.storeAt ty p v).run Try.prog w = .ok () W) (h : wpList Try.prog ops Q rest (a.put op.dst undef) W) : wpList Try.prog ops Q (op :: rest) a w := by
  refine wpList_plain hgd fun K hK => ?_
  unfold Oper.wp execOp
  simp only [ho, Sem.run_bind, hx, hy, hr, Result.andThen_ok, Sem.run_pure]
  exact hK _ _ h
theorem wpList_run_load {ops : Array Oper} {rest : List Oper} {op : Oper} {a : Act} {w : World} {Q : Exit → Act → World → Prop} (hgd : op.guard = none) (ty : TypeId) (x : Operand) (ho : op.op = .load ty x)
    (p v : Value) (hx : a.eval x = p) (hr : (Instr.loadAt ty p).run Try.prog w = .ok v w) (h : wpList Try.prog ops Q rest (a.put op.dst v) w) : wpList Try.prog ops Q (op :: rest) a w := by
  refine wpList_plain hgd fun K hK => ?_
  unfold Oper.wp execOp
  simp only [ho, Sem.run_bind, hx, hr, Result.andThen_ok, Sem.run_pure]
  exact hK _ _ h
/-- What a function hands back whose results lie in memory. -/
theorem results_cell {fn : Func} {ts : Array Value} {w : World} {a : Tmp} {t : TypeId} {p : Addr} {v : Value} (h : fn.results = #[.cell a t]) (ha : ts.getD a undef = .pointer (some p)) (hl : (loadVar t p).run Try.prog w = .ok v w) : (results fn ts).run Try.prog w = .ok v w := by
  unfold results
  rw [h]
  simp [asAddr, ha, hl, -Array.getD_eq_getD_getElem?]
theorem results_cell2 {fn : Func} {ts : Array Value} {w : World} {a b : Tmp} {t : TypeId} {p : Addr} {v x : Value} (h : fn.results = #[.cell a t, .tmp b]) (ha : ts.getD a undef = .pointer (some p)) (hb : ts.getD b undef = x) (hl : (loadVar t p).run Try.prog w = .ok v w) : (results fn ts).run Try.prog w = .ok (.tuple #[v, x]) w := by
  unfold results
  rw [h]
  simp [asAddr, ha, hb, hl, -Array.getD_eq_getD_getElem?]
theorem results_cell3 {fn : Func} {ts : Array Value} {w : World} {a b c : Tmp} {t t' : TypeId} {p q : Addr} {v u x : Value} (h : fn.results = #[.cell a t, .cell b t', .tmp c]) (ha : ts.getD a undef = .pointer (some p)) (hb : ts.getD b undef = .pointer (some q)) (hc : ts.getD c undef = x) (hl : (loadVar t p).run Try.prog w = .ok v w) (hl' : (loadVar t' q).run Try.prog w = .ok u w) : (results fn ts).run Try.prog w = .ok (.tuple #[v, u, x]) w := by
  unfold results
  rw [h]
  simp [asAddr, ha, hb, hc, hl, hl', -Array.getD_eq_getD_getElem?]
/-- A revision, read and stored whole. -/
theorem rev_load {b : Nat} {row : List Value} {w : World} (h : Free.Holds b row w) (hl : row.length = 10) : (Instr.loadAt 50 (.pointer (some ⟨b, 0, none⟩))).run Try.prog w = .ok (.agg row.toArray) w :=
  run_loadAt_mid w b 0 50 row _ (holds_range h) Try.underlying50 rfl (by rw [hl]; exact size33)
theorem rev_store {b : Nat} {zs row : List Value} {w : World} (h : Free.Holds b zs w) (hz : zs.length = 10) (hl : row.length = 10) (h1 : ∀ v ∈ row, v.oneCell' = true) :
    (Instr.storeAt 50 (.pointer (some ⟨b, 0, none⟩)) (.agg row.toArray)).run Try.prog w = .ok () (w.setCells b 0 row) ∧ Free.Holds b row (w.setCells b 0 row) :=
  ⟨run_storeAt_mid w b 0 50 row.toArray (by have := holds_there h; rw [hz] at this; simpa [hl] using this) (by rw [List.size_toArray, hl]; exact size33) (all_oneCell_toArray h1), h.put (by omega)⟩
theorem Rm.row_one (R : Rm) (s : Rs) : ∀ v ∈ R.row s, v.oneCell' = true := by
  intro v hv
  simp only [Rm.row, List.mem_cons, List.not_mem_nil, or_false] at hv
  rcases hv with rfl | rfl | rfl | rfl | rfl | rfl | rfl | rfl | rfl | rfl <;> rfl
theorem Col.put {w : World} {g : Nat} {T : List Value} (h : Col w g T) {b : Nat} (hb : g ≠ b) (vs : List Value) : Col (w.setCells b 0 vs) g T :=
  ⟨by rw [Free.size_setCells]; exact h.lt, fun i hi => by rw [World.cell?_setCells_out b vs 0 w _ (fun e _ => absurd e hb)]; exact h.cell i hi, fun i hi => by rw [World.frozen?_setCells]; exact h.free i hi⟩
theorem holds_set {b i : Nat} {zs : List Value} {w : World} {v : Value} (h : Free.Holds b zs w) (hi : i < zs.length) : Free.Holds b (zs.set i v) (w.setCell ⟨b, i, none⟩ v) := fun k x hk => by
  rw [World.frozen?_setCell]
  obtain ⟨hlt, rfl⟩ := List.getElem?_eq_some_iff.1 hk
  rw [List.length_set] at hlt
  obtain ⟨h1, h2⟩ := h k _ (List.getElem?_eq_getElem hlt)
  refine ⟨?_, h2⟩
  by_cases e : k = i
  · subst e
    rw [World.cell?_setCell_same w ⟨b, k, none⟩ _ h1, List.getElem_set_self]
  · rw [World.cell?_setCell_other w ⟨b, i, none⟩ ⟨b, k, none⟩ _ (by simp only [ne_eq, Addr.mk.injEq, true_and, and_true]; omega), h1, List.getElem_set_ne (by omega)]
/-- A result variable that is a revision: stored, and read at the end. -/
theorem rev_done {b : Nat} {zs : List Value} {w : World} (R : Rm) (s : Rs) (h : Free.Holds b zs w) (hz : zs.length = 10) :
    ∃ W, (Instr.storeAt 50 (.pointer (some ⟨b, 0, none⟩)) (R.v s)).run Try.prog w = .ok () W ∧ W = w.setCells b 0 (R.row s) ∧ (loadVar 50 ⟨b, 0, none⟩).run Try.prog W = .ok (R.v s) W ∧ (∀ q, q ≠ b → W.heap[q]? = w.heap[q]?) ∧ W.heap.size = w.heap.size := by
  obtain ⟨h1, h2⟩ := rev_store (row := R.row s) h hz rfl (R.row_one s)
  refine ⟨_, h1, rfl, run_loadVar_mid _ b 0 50 (R.row s) _ (holds_range h2) Try.underlying50 rfl size33, fun q hq => ?_, Free.size_setCells ..⟩
  have : ∀ (vs : List Value) (o : Nat) (w : World), (w.setCells b o vs).heap[q]? = w.heap[q]? := by
    intro vs
    induction vs with
    | nil => intro o w; rfl
    | cons v vs ih => intro o w; rw [World.setCells, ih]; exact heap_setCell_other w ⟨b, o, none⟩ q v hq
  exact this _ _ _
/-- The block that a slot of the frame points to. -/
def blkAt (a : Act) (t : Nat) : Nat := match a.tmps.getD t undef with
  | .slice (some ad) _ _ => ad.block
  | .pointer (some ad) => ad.block
  | _ => 0
theorem holds_alloc (w : World) (cs : Array Value) (t : TypeId) (p : Nat) (row : List Value) (hp : p = w.heap.size) (hr : row.toArray = cs) : Free.Holds p row (w.alloc (.cells cs t)) := by
  subst hp hr
  exact holds_cells (heap_alloc_new w _)
theorem holds_past {w : World} {p : Nat} {row : List Value} (h : Free.Holds p row w) (hp : p < w.heap.size) (o : Obj) : Free.Holds p row (w.alloc o) := h.below ((Below.refl w.heap.size w).alloc (Nat.le_refl _) _) hp
/-- make of texts, of truths, each as a world of its own. -/
theorem made_cols (n : Nat) (hn : n ≤ 1000000) (t e : TypeId) (z : Value) (hte : (t = 47 ∧ e = 9 ∧ z = .string ⟨#[]⟩) ∨ (t = 48 ∧ e = 4 ∧ z = .bool false)) :
    ∃ W : World → World, (∀ w, (Instr.makeSlice t (.int .i64 (n : Int)) (.int .i64 (n : Int))).run Try.prog w = .ok (.slice (some ⟨w.heap.size, 0, none⟩) n n) (W w)) ∧ (∀ w, (W w).heap.size = w.heap.size + 1) ∧ (∀ w g, g = w.heap.size → Col (W w) g (List.replicate n z)) ∧ (∀ w, Below w.heap.size w (W w)) :=
  ⟨fun w => w.alloc (.cells (madeCells #[z] n) e), fun w => made_col w n hn t e z hte, fun w => by simp, fun w g hg => col_at w n e z g hg, fun w => (Below.refl _ _).alloc (Nat.le_refl _) _⟩
def layRow (ver rate : Int) (lo hi : ByteArray) (all : Bool) (n g1 g2 g3 : Nat) : List Value := [.int .i64 ver, .int .i64 rate, .string lo, .string hi, .bool all, .bool false, .slice (some ⟨g1, 0, none⟩) n n, .slice (some ⟨g2, 0, none⟩) n n, .slice (some ⟨g3, 0, none⟩) n n, .slice none 0 0]
/-- The frame behind the region that makes a revision's columns. -/
def layAct (B : Nat) (ver rate : Int) (lo hi : ByteArray) (all : Bool) (a : Option Addr) (n c g1 g2 g3 p : Nat) : Act := ⟨#[.int .i64 ver, .int .i64 rate, .agg #[.string lo, .string hi, .bool all], .slice a n c, undef, undef, .pointer (some ⟨B, 0, none⟩), undef, .pointer (some ⟨B + 1, 0, none⟩), .pointer (some ⟨p, 0, none⟩), undef, undef, .int .i64 ver, .int .i64 rate, .agg #[.string lo, .string hi, .bool all], .slice a n c, .int .i64 (n : Int), .slice (some ⟨g1, 0, none⟩) n n, .slice a n c, .int .i64 (n : Int), .slice (some ⟨g2, 0, none⟩) n n, .slice a n c, .int .i64 (n : Int), .slice (some ⟨g3, 0, none⟩) n n,
  .agg #[.int .i64 ver, .int .i64 rate, .string lo, .string hi, .bool all, .bool false, .slice (some ⟨g1, 0, none⟩) n n, .slice (some ⟨g2, 0, none⟩) n n, .slice (some ⟨g3, 0, none⟩) n n, .slice none 0 0], undef, undef, undef, undef, undef, undef, undef, undef, undef, undef, undef, undef, undef, undef, undef, undef, undef, undef, undef, undef, undef, undef, undef, undef, undef, undef, undef, undef, undef, undef, undef], []⟩
def LayR (w : World) (ver rate : Int) (lo hi : ByteArray) (all : Bool) (a : Option Addr) (n c : Nat) (a' : Act) (w' : World) : Prop :=
  ∃ g1 g2 g3 p, a' = layAct w.heap.size ver rate lo hi all a n c g1 g2 g3 p ∧ Apart (w.heap.size + 2) g1 g2 g3 p ∧ Cols (w.heap.size + 2) ((w.alloc (.cells #[.string lo, .string hi, .bool all] 46)).alloc (.cells Rm.none.zeroRow.toArray 50)) w' g1 g2 g3 p (layRow ver rate lo hi all n g1 g2 g3) (List.replicate n (.string ⟨#[]⟩)) (List.replicate n (.string ⟨#[]⟩)) (List.replicate n (.bool false))
theorem cut_region3 {P : Program} {c : Code} {Q : Exit → Act → World → Prop} {a : Act} {w : World} (R : Act → World → Prop) (h1 : c.wp P (fun ex a' w' => ex = .normal ∧ R a' w') a w) (h2 : ∀ a' w', R a' w' → Q .normal a' w') : c.wp P Q a w :=
  Code.wp_mono (fun ex a' w' h => by obtain ⟨rfl, h⟩ := h; exact h2 a' w' h) h1
def nf (v : Int) : Value := .int .i64 v
theorem tab_col {w : World} {g : Nat} {T : List Int} (h : Tab w g T) : Col w g (T.map nf) :=
  ⟨h.lt, fun i hi => by rw [List.length_map] at hi; rw [h.cell i hi, List.getElem_map]; rfl, fun i _ => h.free i⟩
theorem col_nums {w : World} {g : Nat} {T : List Int} (h : Col w g (T.map nf)) : Nums w (some ⟨g, 0, none⟩) T :=
  .inr ⟨g, 0, rfl, h.lt, fun k hk => by
    rw [Nat.zero_add, h.cell k (by rw [List.length_map]; exact hk), List.getElem_map]
    rfl⟩
/-- Slices whose blocks stand from a number on. -/
def Rs.from_ (s : Rs) (B : Nat) : Prop := ∀ x, (s.ka = some x ∨ s.va = some x ∨ s.ga = some x ∨ s.ta = some x) → B ≤ x.block
theorem Rs.from_mono {s : Rs} {B B' : Nat} (h : s.from_ B) (hb : B' ≤ B) : s.from_ B' := fun x hx => Nat.le_trans hb (h x hx)
theorem from_none (B : Nat) : Rs.none.from_ B := by
  rintro x (h | h | h | h) <;> cases h
theorem keys_put {w : World} {a : Option Addr} {l : List ByteArray} (h : Keys w a l) {b : Nat} (hb : ∀ x, a = some x → x.block ≠ b) (vs : List Value) : Keys (w.setCells b 0 vs) a l := by
  rcases h with rfl | ⟨g, off, rfl, hlt, hc⟩
  · exact .inl rfl
  · exact .inr ⟨g, off, rfl, by rw [Free.size_setCells]; exact hlt, fun k hk => by rw [World.cell?_setCells_out b vs 0 w ⟨g, off + k, none⟩ (fun e _ => absurd e (hb ⟨g, off, none⟩ rfl))]; exact hc k hk⟩
theorem bools_put {w : World} {a : Option Addr} {l : List Bool} (h : Bools w a l) {b : Nat} (hb : ∀ x, a = some x → x.block ≠ b) (vs : List Value) : Bools (w.setCells b 0 vs) a l := by
  rcases h with rfl | ⟨g, off, rfl, hlt, hc⟩
  · exact .inl rfl
  · exact .inr ⟨g, off, rfl, by rw [Free.size_setCells]; exact hlt, fun k hk => by rw [World.cell?_setCells_out b vs 0 w ⟨g, off + k, none⟩ (fun e _ => absurd e (hb ⟨g, off, none⟩ rfl))]; exact hc k hk⟩
theorem nums_put {w : World} {a : Option Addr} {l : List Int} (h : Nums w a l) {b : Nat} (hb : ∀ x, a = some x → x.block ≠ b) (vs : List Value) : Nums (w.setCells b 0 vs) a l := by
  rcases h with rfl | ⟨g, off, rfl, hlt, hc⟩
  · exact .inl rfl
  · exact .inr ⟨g, off, rfl, by rw [Free.size_setCells]; exact hlt, fun k hk => by rw [World.cell?_setCells_out b vs 0 w ⟨g, off + k, none⟩ (fun e _ => absurd e (hb ⟨g, off, none⟩ rfl))]; exact hc k hk⟩
theorem RevAt.put {w : World} {R : Rm} {s : Rs} (h : RevAt w R s) {b B : Nat} (hf : s.from_ B) (hb : b < B) (vs : List Value) : RevAt (w.setCells b 0 vs) R s :=
  ⟨keys_put h.k (fun x hx => by have := hf x (.inl hx); omega) vs, keys_put h.v (fun x hx => by have := hf x (.inr (.inl hx)); omega) vs, bools_put h.g (fun x hx => by have := hf x (.inr (.inr (.inl hx))); omega) vs, nums_put h.t (fun x hx => by have := hf x (.inr (.inr (.inr hx))); omega) vs⟩
end Go.Proofs.Ytjlifkhpohfiaaa
