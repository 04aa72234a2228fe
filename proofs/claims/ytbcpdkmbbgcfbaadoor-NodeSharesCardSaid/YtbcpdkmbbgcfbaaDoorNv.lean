/- Struct variables by their cells; slices of numbers whose rows nobody changes. No condition. -/
import Derived.Test.YtbcpdkmbbgcfbaaDoorLk
import Derived.Handy
namespace Go.Proofs.YtbcpdkmbbgcfbaaDoor
open Go.RowKit Go.Op
set_option maxRecDepth 100000

/-- A type whose values are so many cells. -/
structure Shape (ty : TypeId) (n : Nat) : Prop where
  row : ∃ d, Tryd.prog.underlying ty = some d ∧ d.isRow = true
  size : (Tryd.prog.info? ty).map (·.size) = some n
theorem sh42 : Shape 42 11 := ⟨⟨_, Tryd.underlying42, rfl⟩, by kernel_rfl⟩
theorem sh40 : Shape 40 10 := ⟨⟨_, Tryd.underlying40, rfl⟩, by kernel_rfl⟩
theorem sh27 : Shape 27 3 := ⟨⟨_, Tryd.underlying27, rfl⟩, by kernel_rfl⟩
theorem sh84 : Shape 84 12 := ⟨⟨_, Tryd.underlying84, rfl⟩, by kernel_rfl⟩
theorem sh29 : Shape 29 7 := ⟨⟨_, Tryd.underlying29, rfl⟩, by kernel_rfl⟩
/-- A variable that holds such cells. -/
structure SVar (w : World) (z : Nat) (row : List Value) : Prop where
  lt : z < w.heap.size
  fz : ∀ i, w.frozen? ⟨z, i, none⟩ = false
  at_ : w.rangeAt z 0 row
def sput (w : World) (z : Nat) (row : List Value) : World := w.setCells z 0 row
section
variable {w w1 : World} {z : Nat} {row row' : List Value} {ty : TypeId}
theorem SVar.cell (h : SVar w z row) {i : Nat} {v : Value} (hi : row[i]? = some v) : w.cell? ⟨z, i, none⟩ = some v := by
  have := h.at_ i v hi
  rwa [Nat.zero_add] at this
theorem SVar.mid (h : SVar w z row) (o : Nat) (sub : List Value) (hs : ∀ j v, sub[j]? = some v → row[o + j]? = some v) : w.rangeAt z o sub := fun j v hj => h.cell (hs j v hj)
theorem load_mid {o : Nat} {sub : List Value} (h : w.rangeAt z o sub) (hS : Shape ty sub.length) : (Instr.loadAt ty (.pointer (some ⟨z, o, none⟩))).run Tryd.prog w = .ok (.agg sub.toArray) w := by
  obtain ⟨d, h1, h2⟩ := hS.row
  exact run_loadAt_mid w z o ty sub d h h1 h2 hS.size
theorem SVar.load (h : SVar w z row) (hS : Shape ty row.length) : (Instr.loadAt ty (.pointer (some ⟨z, 0, none⟩))).run Tryd.prog w = .ok (.agg row.toArray) w := load_mid h.at_ hS
theorem SVar.loadVar (h : SVar w z row) (hS : Shape ty row.length) : (loadVar ty ⟨z, 0, none⟩).run Tryd.prog w = .ok (.agg row.toArray) w := by
  obtain ⟨d, h1, h2⟩ := hS.row
  exact run_loadVar_mid w z 0 ty row d h.at_ h1 h2 hS.size
theorem SVar.there (h : SVar w z row) : w.there z 0 row.length := fun j hj => ⟨h.at_.isSome j hj, h.fz _⟩
theorem SVar.store (h : SVar w z row) (hl : row'.length = row.length) (hS : Shape ty row'.length) (h1 : ∀ v ∈ row', v.oneCell' = true) : (Instr.storeAt ty (.pointer (some ⟨z, 0, none⟩)) (.agg row'.toArray)).run Tryd.prog w = .ok () (sput w z row') :=
  run_storeAt_mid w z 0 ty row'.toArray (by have := h.there; rw [← hl] at this; simpa using this) (by simpa using hS.size) (all_oneCell_toArray h1)
theorem SVar.put (h : SVar w z row) (hl : row'.length = row.length) : SVar (sput w z row') z row' :=
  ⟨by unfold sput; rw [Free.size_setCells]; exact h.lt, fun i => by unfold sput; rw [World.frozen?_setCells]; exact h.fz i, World.rangeAt_setCells_same w z 0 row' (by rw [hl]; exact h.there)⟩
theorem SVar.same (h : SVar w z row) (hs : w.heap.size ≤ w1.heap.size) (hb : w1.heap[z]? = w.heap[z]?) : SVar w1 z row :=
  ⟨Nat.lt_of_lt_of_le h.lt hs, fun i => by rw [World.frozen?_of_block (w := w) (a := ⟨z, i, none⟩) hb]; exact h.fz i, fun j v hj => by rw [World.cell?_of_block (w := w) (a := ⟨z, 0 + j, none⟩) hb]; exact h.at_ j v hj⟩
theorem SVar.later (h : SVar w z row) (hb : Below w.heap.size w w1) : SVar w1 z row := h.same hb.size (hb.block z h.lt)
/-- One cell is stored. -/
theorem SVar.set (h : SVar w z row) {i : Nat} (hi : i < row.length) (u : Value) : SVar (w.setCell ⟨z, i, none⟩ u) z (row.set i u) := by
  refine ⟨by simp [World.setCell]; exact h.lt, fun j => by rw [World.frozen?_setCell]; exact h.fz j, fun j v hj => ?_⟩
  rw [Nat.zero_add]
  rw [List.getElem?_set] at hj
  split at hj
  · rename_i e
    subst e
    cases hj
    exact set_same (h.cell (List.getElem?_eq_getElem hi))
  · rename_i e
    exact set_other (h.cell hj) (.inr e)
end
theorem snew (w : World) (row : List Value) (ty : TypeId) : SVar (w.alloc (.cells row.toArray ty)) w.heap.size row :=
  ⟨by simp, fun i => World.frozen?_alloc_at _ ty _ i rfl, fun j v hj => by rw [Nat.zero_add, World.cell?_alloc_new]; simpa using hj⟩
theorem sput_but (w : World) (z : Nat) : ∀ (row : List Value) (o : Nat), But z w (w.setCells z o row)
  | [], _ => But.refl _ _
  | v :: r, o => by
    rw [World.setCells]
    exact ((But.refl z w).set o v).trans (sput_but _ z r (o + 1))
theorem But.sput (w : World) (z : Nat) (row : List Value) : But z w (sput w z row) := sput_but w z row 0
theorem sput_size (w : World) (z : Nat) (row : List Value) : (sput w z row).heap.size = w.heap.size := Free.size_setCells ..
theorem Aft.svar {w0 : World} {b c r pb po : Nat} {t t1 : Value} {G G1 : List (Nat × List Value)} {w w1 : World} {m1 : M} {s1 : Pt} {z : Nat} {row : List Value} (ha : Aft w0 b c r pb po t G w t1 G1 w1 m1 s1) (hz : Loc w0 b c r pb t G w z) (h : SVar w z row) : SVar w1 z row ∧ Loc w0 b c r pb t1 G1 w1 z :=
  ⟨h.same ha.but.size (hz.aft ha).2, (hz.aft ha).1⟩

/-- An age; a node; a place of a chain. -/
structure Ag where
  r : Rv
  pv : Int
structure Nd where
  low : ByteArray
  head : Int
  nx : List Int
structure Sp where
  h : Int
  a : Ag
def rv0 : Rv := ⟨0, 0, ⟨#[]⟩, ⟨#[]⟩, false, false, [], [], [], []⟩
def ag0 : Ag := ⟨rv0, 0⟩
def nd0 : Nd := ⟨⟨#[]⟩, 0, []⟩
def sp0 : Sp := ⟨0, ag0⟩
def Ag.d (a : Ag) : Dat := .age a.r a.pv
def Nd.d (n : Nd) : Dat := .node n.low n.head n.nx
def Ag.row (a : Ag) (p : Pl) : List Value := [.int .i64 a.r.ver, .int .i64 a.r.rate, .string a.r.lo, .string a.r.hi, .bool a.r.all, .bool a.r.dead, .slice p.s0.a p.s0.n p.s0.cap, .slice p.s1.a p.s1.n p.s1.cap, .slice p.s2.a p.s2.n p.s2.cap, .slice p.s3.a p.s3.n p.s3.cap, .int .i64 a.pv]
def Nd.row (n : Nd) (p : Pl) : List Value := [.string n.low, .int .i64 n.head, .slice p.s0.a p.s0.n p.s0.cap]
def Sp.row (x : Sp) (p : Pl) : List Value := .int .i64 x.h :: x.a.row p
def Ag.v (a : Ag) (p : Pl) : Value := .agg #[.int .i64 a.r.ver, .int .i64 a.r.rate, .string a.r.lo, .string a.r.hi, .bool a.r.all, .bool a.r.dead, .slice p.s0.a p.s0.n p.s0.cap, .slice p.s1.a p.s1.n p.s1.cap, .slice p.s2.a p.s2.n p.s2.cap, .slice p.s3.a p.s3.n p.s3.cap, .int .i64 a.pv]
def Rv.v (r : Rv) (p : Pl) : Value := .agg #[.int .i64 r.ver, .int .i64 r.rate, .string r.lo, .string r.hi, .bool r.all, .bool r.dead, .slice p.s0.a p.s0.n p.s0.cap, .slice p.s1.a p.s1.n p.s1.cap, .slice p.s2.a p.s2.n p.s2.cap, .slice p.s3.a p.s3.n p.s3.cap]
def Nd.v (n : Nd) (p : Pl) : Value := .agg #[.string n.low, .int .i64 n.head, .slice p.s0.a p.s0.n p.s0.cap]
def Sp.v (x : Sp) (p : Pl) : Value := .agg #[.int .i64 x.h, .int .i64 x.a.r.ver, .int .i64 x.a.r.rate, .string x.a.r.lo, .string x.a.r.hi, .bool x.a.r.all, .bool x.a.r.dead, .slice p.s0.a p.s0.n p.s0.cap, .slice p.s1.a p.s1.n p.s1.cap, .slice p.s2.a p.s2.n p.s2.cap, .slice p.s3.a p.s3.n p.s3.cap, .int .i64 x.a.pv]
theorem Ag.row_one (a : Ag) (p : Pl) : ∀ v ∈ a.row p, v.oneCell' = true := by
  intro v hv
  simp only [Ag.row, List.mem_cons, List.not_mem_nil, or_false] at hv
  rcases hv with rfl | rfl | rfl | rfl | rfl | rfl | rfl | rfl | rfl | rfl | rfl <;> rfl
theorem Nd.row_one (a : Nd) (p : Pl) : ∀ v ∈ a.row p, v.oneCell' = true := by
  intro v hv
  simp only [Nd.row, List.mem_cons, List.not_mem_nil, or_false] at hv
  rcases hv with rfl | rfl | rfl <;> rfl
theorem Sp.row_one (a : Sp) (p : Pl) : ∀ v ∈ a.row p, v.oneCell' = true := by
  intro v hv
  rcases List.mem_cons.1 hv with rfl | hv
  · rfl
  · exact a.a.row_one p v hv
theorem rv0_in {G : List (Nat × List Value)} : rv0.In G .nil := ⟨.nil, .nil, .nil, .nil⟩
theorem nd0_in {G : List (Nat × List Value)} : nd0.d.In G .nil := Sl.In.nil
/-- What a handle's block is, by assertion. -/
def heldA (a : An) : Ag × Int := if a.err = 0 then (match a.held with
    | .blk (.age r pv) _ => (⟨r, pv⟩, 0)
    | _ => (ag0, 6)) else (ag0, a.err)
def heldN (a : An) : Nd × Int := if a.err = 0 then (match a.held with
    | .blk (.node low head nx) _ => (⟨low, head, nx⟩, 0)
    | _ => (nd0, 6)) else (nd0, a.err)
def takeP (h : Int) : Pr (Ag × Int) := .ask (.load h) fun a => .ret (heldA a)
def loadP (h : Int) : Pr (Nd × Int) := .ask (.load h) fun a => .ret (heldN a)
def RAge (G' : List (Nat × List Value)) (a : Ag × Int) (v : Value) : Prop := ∃ p : Pl, a.1.d.In G' p ∧ v = .tuple #[a.1.v p, .int .i64 a.2]
def RNode (G' : List (Nat × List Value)) (a : Nd × Int) (v : Value) : Prop := ∃ p : Pl, a.1.d.In G' p ∧ v = .tuple #[a.1.v p, .int .i64 a.2]
theorem as42_yes (a : Ag) (p : Pl) (w : World) : (Instr.typeAssert (.iface 42 (a.v p)) 20 42 true).run Tryd.prog w = .ok (.tuple #[a.v p, .bool true]) w := by kernel_rfl
theorem as42_no (w : World) : (Instr.typeAssert .nilIface 20 42 true).run Tryd.prog w = .ok (.tuple #[ag0.v .nil, .bool false]) w := by kernel_rfl
theorem as42_word (v : Value) (w : World) : (Instr.typeAssert (.iface 125 v) 20 42 true).run Tryd.prog w = .ok (.tuple #[ag0.v .nil, .bool false]) w := by kernel_rfl
theorem as42_node (v : Value) (w : World) : (Instr.typeAssert (.iface 27 v) 20 42 true).run Tryd.prog w = .ok (.tuple #[ag0.v .nil, .bool false]) w := by kernel_rfl
theorem as27_yes (a : Nd) (p : Pl) (w : World) : (Instr.typeAssert (.iface 27 (a.v p)) 20 27 true).run Tryd.prog w = .ok (.tuple #[a.v p, .bool true]) w := by kernel_rfl
theorem as27_no (w : World) : (Instr.typeAssert .nilIface 20 27 true).run Tryd.prog w = .ok (.tuple #[nd0.v .nil, .bool false]) w := by kernel_rfl
theorem as27_word (v : Value) (w : World) : (Instr.typeAssert (.iface 125 v) 20 27 true).run Tryd.prog w = .ok (.tuple #[nd0.v .nil, .bool false]) w := by kernel_rfl
theorem as27_age (v : Value) (w : World) : (Instr.typeAssert (.iface 42 v) 20 27 true).run Tryd.prog w = .ok (.tuple #[nd0.v .nil, .bool false]) w := by kernel_rfl
theorem as42_any (x : Held) : ∃ (a : Ag) (p : Pl) (ok : Bool), (∀ w, (Instr.typeAssert x.v 20 42 true).run Tryd.prog w = .ok (.tuple #[a.v p, .bool ok]) w) ∧ (∀ G, x.In G → a.d.In G p) ∧ (if ok = true then (a, (0 : Int)) else (ag0, 6)) = heldA ⟨x.e, 0, false, 0⟩ ∧ (ok = false → a = ag0 ∧ p = .nil) := by
  cases x with
  | no => exact ⟨ag0, .nil, false, as42_no, fun _ _ => rv0_in, rfl, fun _ => ⟨rfl, rfl⟩⟩
  | word n => exact ⟨ag0, .nil, false, as42_word _, fun _ _ => rv0_in, rfl, fun _ => ⟨rfl, rfl⟩⟩
  | blk d p =>
    cases d with
    | age r pv => exact ⟨⟨r, pv⟩, p, true, as42_yes ⟨r, pv⟩ p, fun G h => h _ _ rfl, rfl, fun e => (by cases e)⟩
    | node low head nx => exact ⟨ag0, .nil, false, as42_node _, fun _ _ => rv0_in, rfl, fun _ => ⟨rfl, rfl⟩⟩
theorem as27_any (x : Held) : ∃ (a : Nd) (p : Pl) (ok : Bool), (∀ w, (Instr.typeAssert x.v 20 27 true).run Tryd.prog w = .ok (.tuple #[a.v p, .bool ok]) w) ∧ (∀ G, x.In G → a.d.In G p) ∧ (if ok = true then (a, (0 : Int)) else (nd0, 6)) = heldN ⟨x.e, 0, false, 0⟩ ∧ (ok = false → a = nd0 ∧ p = .nil) := by
  cases x with
  | no => exact ⟨nd0, .nil, false, as27_no, fun _ _ => nd0_in, rfl, fun _ => ⟨rfl, rfl⟩⟩
  | word n => exact ⟨nd0, .nil, false, as27_word _, fun _ _ => nd0_in, rfl, fun _ => ⟨rfl, rfl⟩⟩
  | blk d p =>
    cases d with
    | age r pv => exact ⟨nd0, .nil, false, as27_age _, fun _ _ => nd0_in, rfl, fun _ => ⟨rfl, rfl⟩⟩
    | node low head nx => exact ⟨⟨low, head, nx⟩, p, true, as27_yes ⟨low, head, nx⟩ p, fun G h => h _ _ rfl, rfl, fun e => (by cases e)⟩
/-- A load, a store, an append in a plain region, by their runs. -/
theorem store_run {P : Program} {w w' : World} {ops : Array Oper} {rest : List Oper} {o : Oper} {a : Act} {Q : Exit → Act → World → Prop} {v y : Value} (hgd : o.guard = none) (x z : Operand) (t : TypeId)
    (ho : o.op = .store t x z) (hx : a.eval x = v) (hz : a.eval z = y) (hr : (Instr.storeAt t v y).run P w = .ok () w') (h : wpList P ops Q rest (a.put o.dst undef) w') : wpList P ops Q (o :: rest) a w := by
  refine wpList_plain hgd fun K hK => ?_
  unfold Oper.wp execOp
  simp only [ho, hx, hz, Sem.run_bind, Sem.run_pure, Result.andThen_ok, hr]
  exact hK _ _ h
theorem load_run {P : Program} {w : World} {ops : Array Oper} {rest : List Oper} {o : Oper} {a : Act} {Q : Exit → Act → World → Prop} {v u : Value} (hgd : o.guard = none) (x : Operand) (t : TypeId)
    (ho : o.op = .load t x) (hx : a.eval x = v) (hr : (Instr.loadAt t v).run P w = .ok u w) (h : wpList P ops Q rest (a.put o.dst u) w) : wpList P ops Q (o :: rest) a w := by
  refine wpList_plain hgd fun K hK => ?_
  unfold Oper.wp execOp
  simp only [ho, hx, Sem.run_bind, Sem.run_pure, Result.andThen_ok, hr]
  exact hK _ _ h
theorem append_run {P : Program} {w w' : World} {ops : Array Oper} {rest : List Oper} {o : Oper} {a : Act} {Q : Exit → Act → World → Prop} {v y u : Value} (hgd : o.guard = none) (s x : Operand) (t : TypeId)
    (ho : o.op = .call { callee := .builtin .append, args := #[s, x], argTypes := #[t, t] }) (hs : a.eval s = v) (hx : a.eval x = y)
    (hr : ∀ ty, (Builtin.append_ #[t, t] ty #[v, y]).run P w = .ok u w') (h : wpList P ops Q rest (a.put o.dst u) w') : wpList P ops Q (o :: rest) a w := by
  refine wpList_plain hgd fun K hK => ?_
  unfold Oper.wp execOp
  simp only [ho, resolve, invoke, builtin, Sem.run_bind, Sem.run_pure, Result.andThen_ok, List.map_toArray, List.map_cons, List.map_nil, hs, hx, hr]
  exact hK _ _ h
/-- How results are told. -/
theorem res_c {fn : Func} {ts : Array Value} {w : World} {a : Tmp} {t : TypeId} {p : Addr} {v : Value} (h : fn.results = #[.cell a t]) (ha : ts.getD a undef = .pointer (some p)) (hl : (loadVar t p).run Tryd.prog w = .ok v w) : (results fn ts).run Tryd.prog w = .ok v w := by
  unfold results
  rw [h]
  simp [asAddr, ha, hl, -Array.getD_eq_getD_getElem?]
theorem res_ct {fn : Func} {ts : Array Value} {w : World} {a b : Tmp} {t : TypeId} {p : Addr} {v : Value} (x : Value) (h : fn.results = #[.cell a t, .tmp b]) (ha : ts.getD a undef = .pointer (some p)) (hb : ts.getD b undef = x) (hl : (loadVar t p).run Tryd.prog w = .ok v w) : (results fn ts).run Tryd.prog w = .ok (.tuple #[v, x]) w := by
  unfold results
  rw [h]
  simp [asAddr, ha, hb, hl, -Array.getD_eq_getD_getElem?]
theorem res_cc {fn : Func} {ts : Array Value} {w : World} {a b : Tmp} {t u : TypeId} {p q : Addr} {v x : Value} (h : fn.results = #[.cell a t, .cell b u]) (ha : ts.getD a undef = .pointer (some p)) (hb : ts.getD b undef = .pointer (some q)) (hl : (loadVar t p).run Tryd.prog w = .ok v w) (hm : (loadVar u q).run Tryd.prog w = .ok x w) : (results fn ts).run Tryd.prog w = .ok (.tuple #[v, x]) w := by
  unfold results
  rw [h]
  simp [asAddr, ha, hb, hl, hm, -Array.getD_eq_getD_getElem?]
theorem res_tct {fn : Func} {ts : Array Value} {w : World} {a b c : Tmp} {t : TypeId} {p : Addr} {v : Value} (x y : Value) (h : fn.results = #[.tmp a, .cell b t, .tmp c]) (ha : ts.getD a undef = x) (hb : ts.getD b undef = .pointer (some p)) (hc : ts.getD c undef = y) (hl : (loadVar t p).run Tryd.prog w = .ok v w) : (results fn ts).run Tryd.prog w = .ok (.tuple #[x, v, y]) w := by
  unfold results
  rw [h]
  simp [asAddr, ha, hb, hc, hl, -Array.getD_eq_getD_getElem?]
theorem res_ctt {fn : Func} {ts : Array Value} {w : World} {a b c : Tmp} {t : TypeId} {p : Addr} {v : Value} (x y : Value) (h : fn.results = #[.cell a t, .tmp b, .tmp c]) (ha : ts.getD a undef = .pointer (some p)) (hb : ts.getD b undef = x) (hc : ts.getD c undef = y) (hl : (loadVar t p).run Tryd.prog w = .ok v w) : (results fn ts).run Tryd.prog w = .ok (.tuple #[v, x, y]) w := by
  unfold results
  rw [h]
  simp [asAddr, ha, hb, hc, hl, -Array.getD_eq_getD_getElem?]
end Go.Proofs.YtbcpdkmbbgcfbaaDoor
