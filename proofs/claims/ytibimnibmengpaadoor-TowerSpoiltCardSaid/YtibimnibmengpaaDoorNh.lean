/- Struct variables by their cells; slices of numbers whose rows nobody changes. No condition. -/
import Derived.Test.YtibimnibmengpaaDoorLk
import Derived.Handy
import Derived.Maps.AppendAt
import Derived.Laws.OwnMore
import Derived.Deep.Upon
namespace Go.Proofs.YtibimnibmengpaaDoor
open Go.RowKit Go.Op
set_option maxRecDepth 100000

/-- A type whose values are so many cells. -/
structure Shape (ty : TypeId) (n : Nat) : Prop where
  row : ∃ d, Tryd.prog.underlying ty = some d ∧ d.isRow = true
  size : (Tryd.prog.info? ty).map (·.size) = some n
theorem sh42 : Shape 57 11 := ⟨⟨_, Tryd.underlying57, rfl⟩, by kernel_rfl⟩
theorem sh40 : Shape 52 10 := ⟨⟨_, Tryd.underlying52, rfl⟩, by kernel_rfl⟩
theorem sh27 : Shape 38 3 := ⟨⟨_, Tryd.underlying38, rfl⟩, by kernel_rfl⟩
theorem sh84 : Shape 99 12 := ⟨⟨_, Tryd.underlying99, rfl⟩, by kernel_rfl⟩
theorem sh29 : Shape 29 4 := ⟨⟨_, Tryd.underlying29, rfl⟩, by kernel_rfl⟩
/-- A variable that holds such cells. -/
structure SVar (w : World) (z : Nat) (row : List Value) : Prop where
  lt : z < w.heap.size
  fz : ∀ i, w.frozen? ⟨z, i, none⟩ = false
  at_ : w.rangeAt z 0 row
def sput (w : World) (z : Nat) (row : List Value) : World := w.setCells z 0 row
section
variable {w w1 : World} {z : Nat} {row row' : List Value} {ty : TypeId}
theorem SVar.cell (h : SVar w z row) {i : Nat} {v : Value} (hi : row[i]? = some v) : w.cell? ⟨z, i, none⟩ = some v := by
  have := h.at_ i v hi
  rwa [Nat.zero_add] at this
theorem SVar.mid (h : SVar w z row) (o : Nat) (sub : List Value) (hs : ∀ j v, sub[j]? = some v → row[o + j]? = some v) : w.rangeAt z o sub := fun j v hj => h.cell (hs j v hj)
theorem load_mid {o : Nat} {sub : List Value} (h : w.rangeAt z o sub) (hS : Shape ty sub.length) : (Instr.loadAt ty (.pointer (some ⟨z, o, none⟩))).run Tryd.prog w = .ok (.agg sub.toArray) w := by
  obtain ⟨d, h1, h2⟩ := hS.row
  exact run_loadAt_mid w z o ty sub d h h1 h2 hS.size
theorem SVar.load (h : SVar w z row) (hS : Shape ty row.length) : (Instr.loadAt ty (.pointer (some ⟨z, 0, none⟩))).run Tryd.prog w = .ok (.agg row.toArray) w := load_mid h.at_ hS
theorem SVar.loadVar (h : SVar w z row) (hS : Shape ty row.length) : (loadVar ty ⟨z, 0, none⟩).run Tryd.prog w = .ok (.agg row.toArray) w := by
  obtain ⟨d, h1, h2⟩ := hS.row
  exact run_loadVar_mid w z 0 ty row d h.at_ h1 h2 hS.size
theorem SVar.there (h : SVar w z row) : w.there z 0 row.length := fun j hj => ⟨h.at_.isSome j hj, h.fz _⟩
theorem SVar.store (h : SVar w z row) (hl : row'.length = row.length) (hS : Shape ty row'.length) (h1 : ∀ v ∈ row', v.oneCell' = true) : (Instr.storeAt ty (.pointer (some ⟨z, 0, none⟩)) (.agg row'.toArray)).run Tryd.prog w = .ok () (sput w z row') :=
  run_storeAt_mid w z 0 ty row'.toArray (by have := h.there; rw [← hl] at this; simpa using this) (by simpa using hS.size) (all_oneCell_toArray h1)
theorem SVar.put (h : SVar w z row) (hl : row'.length = row.length) : SVar (sput w z row') z row' :=
  ⟨by unfold sput; rw [Free.size_setCells]; exact h.lt, fun i => by unfold sput; rw [World.frozen?_setCells]; exact h.fz i, World.rangeAt_setCells_same w z 0 row' (by rw [hl]; exact h.there)⟩
theorem SVar.same (h : SVar w z row) (hs : w.heap.size ≤ w1.heap.size) (hb : w1.heap[z]? = w.heap[z]?) : SVar w1 z row :=
  ⟨Nat.lt_of_lt_of_le h.lt hs, fun i => by rw [World.frozen?_of_block (w := w) (a := ⟨z, i, none⟩) hb]; exact h.fz i, fun j v hj => by rw [World.cell?_of_block (w := w) (a := ⟨z, 0 + j, none⟩) hb]; exact h.at_ j v hj⟩
theorem SVar.later (h : SVar w z row) (hb : Below w.heap.size w w1) : SVar w1 z row := h.same hb.size (hb.block z h.lt)
/-- One cell is stored. -/
theorem SVar.set (h : SVar w z row) {i : Nat} (hi : i < row.length) (u : Value) : SVar (w.setCell ⟨z, i, none⟩ u) z (row.set i u) := by
  refine ⟨by simp [World.setCell]; exact h.lt, fun j => by rw [World.frozen?_setCell]; exact h.fz j, fun j v hj => ?_⟩
  rw [Nat.zero_add]
  rw [List.getElem?_set] at hj
  split at hj
  · rename_i e
    subst e
    cases hj
    exact set_same (h.cell (List.getElem?_eq_getElem hi))
  · rename_i e
    exact set_other (h.cell hj) (.inr e)
end
theorem snew (w : World) (row : List Value) (ty : TypeId) : SVar (w.alloc (.cells row.toArray ty)) w.heap.size row :=
  ⟨by simp, fun i => World.frozen?_alloc_at _ ty _ i rfl, fun j v hj => by rw [Nat.zero_add, World.cell?_alloc_new]; simpa using hj⟩
theorem sput_but (w : World) (z : Nat) : ∀ (row : List Value) (o : Nat), But z w (w.setCells z o row)
  | [], _ => But.refl _ _
  | v :: r, o => by
    rw [World.setCells]
    exact ((But.refl z w).set o v).trans (sput_but _ z r (o + 1))
theorem But.sput (w : World) (z : Nat) (row : List Value) : But z w (sput w z row) := sput_but w z row 0
theorem sput_size (w : World) (z : Nat) (row : List Value) : (sput w z row).heap.size = w.heap.size := Free.size_setCells ..
theorem Aft.svar {w0 : World} {b c r pb po : Nat} {t t1 : Value} {G G1 : List (Nat × List Value)} {w w1 : World} {m1 : M} {s1 : Pt} {z : Nat} {row : List Value} (ha : Aft w0 b c r pb po t G w t1 G1 w1 m1 s1) (hz : Loc w0 b c r pb t G w z) (h : SVar w z row) : SVar w1 z row ∧ Loc w0 b c r pb t1 G1 w1 z :=
  ⟨h.same ha.but.size (hz.aft ha).2, (hz.aft ha).1⟩

/-- An age; a node; a place of a chain. -/
structure Ag where
  r : Rv
  pv : Int
structure Nd where
  low : ByteArray
  head : Int
  nx : List Int
structure Sp where
  h : Int
  a : Ag
def rv0 : Rv := ⟨0, 0, ⟨#[]⟩, ⟨#[]⟩, false, false, [], [], [], []⟩
def ag0 : Ag := ⟨rv0, 0⟩
def nd0 : Nd := ⟨⟨#[]⟩, 0, []⟩
def sp0 : Sp := ⟨0, ag0⟩
def Ag.d (a : Ag) : Dat := .age a.r a.pv
def Nd.d (n : Nd) : Dat := .node n.low n.head n.nx
def Ag.row (a : Ag) (p : Pl) : List Value := [.int .i64 a.r.ver, .int .i64 a.r.rate, .string a.r.lo, .string a.r.hi, .bool a.r.all, .bool a.r.dead, .slice p.s0.a p.s0.n p.s0.cap, .slice p.s1.a p.s1.n p.s1.cap, .slice p.s2.a p.s2.n p.s2.cap, .slice p.s3.a p.s3.n p.s3.cap, .int .i64 a.pv]
def Nd.row (n : Nd) (p : Pl) : List Value := [.string n.low, .int .i64 n.head, .slice p.s0.a p.s0.n p.s0.cap]
def Sp.row (x : Sp) (p : Pl) : List Value := .int .i64 x.h :: x.a.row p
def Ag.v (a : Ag) (p : Pl) : Value := .agg #[.int .i64 a.r.ver, .int .i64 a.r.rate, .string a.r.lo, .string a.r.hi, .bool a.r.all, .bool a.r.dead, .slice p.s0.a p.s0.n p.s0.cap, .slice p.s1.a p.s1.n p.s1.cap, .slice p.s2.a p.s2.n p.s2.cap, .slice p.s3.a p.s3.n p.s3.cap, .int .i64 a.pv]
def Rv.v (r : Rv) (p : Pl) : Value := .agg #[.int .i64 r.ver, .int .i64 r.rate, .string r.lo, .string r.hi, .bool r.all, .bool r.dead, .slice p.s0.a p.s0.n p.s0.cap, .slice p.s1.a p.s1.n p.s1.cap, .slice p.s2.a p.s2.n p.s2.cap, .slice p.s3.a p.s3.n p.s3.cap]
def Nd.v (n : Nd) (p : Pl) : Value := .agg #[.string n.low, .int .i64 n.head, .slice p.s0.a p.s0.n p.s0.cap]
def Sp.v (x : Sp) (p : Pl) : Value := .agg #[.int .i64 x.h, .int .i64 x.a.r.ver, .int .i64 x.a.r.rate, .string x.a.r.lo, .string x.a.r.hi, .bool x.a.r.all, .bool x.a.r.dead, .slice p.s0.a p.s0.n p.s0.cap, .slice p.s1.a p.s1.n p.s1.cap, .slice p.s2.a p.s2.n p.s2.cap, .slice p.s3.a p.s3.n p.s3.cap, .int .i64 x.a.pv]
theorem Ag.row_one (a : Ag) (p : Pl) : ∀ v ∈ a.row p, v.oneCell' = true := by
  intro v hv
  simp only [Ag.row, List.mem_cons, List.not_mem_nil, or_false] at hv
  rcases hv with rfl | rfl | rfl | rfl | rfl | rfl | rfl | rfl | rfl | rfl | rfl <;> rfl
theorem Nd.row_one (a : Nd) (p : Pl) : ∀ v ∈ a.row p, v.oneCell' = true := by
  intro v hv
  simp only [Nd.row, List.mem_cons, List.not_mem_nil, or_false] at hv
  rcases hv with rfl | rfl | rfl <;> rfl
theorem Sp.row_one (a : Sp) (p : Pl) : ∀ v ∈ a.row p, v.oneCell' = true := by
  intro v hv
  rcases List.mem_cons.1 hv with rfl | hv
  · rfl
  · exact a.a.row_one p v hv
theorem rv0_in {G : List (Nat × List Value)} : rv0.In G .nil := ⟨.nil, .nil, .nil, .nil⟩
theorem nd0_in {G : List (Nat × List Value)} : nd0.d.In G .nil := Sl.In.nil
/-- What a handle's block is, by assertion. -/
def heldA (a : An) : Ag × Int := if a.err = 0 then (match a.held with
    | .blk (.age r pv) _ => (⟨r, pv⟩, 0)
    | _ => (ag0, 6)) else (ag0, a.err)
def heldN (a : An) : Nd × Int := if a.err = 0 then (match a.held with
    | .blk (.node low head nx) _ => (⟨low, head, nx⟩, 0)
    | _ => (nd0, 6)) else (nd0, a.err)
def takeP (h : Int) : Pr (Ag × Int) := .ask (.load h) fun a => .ret (heldA a)
def loadP (h : Int) : Pr (Nd × Int) := .ask (.load h) fun a => .ret (heldN a)
def RAge (G' : List (Nat × List Value)) (a : Ag × Int) (v : Value) : Prop := ∃ p : Pl, a.1.d.In G' p ∧ v = .tuple #[a.1.v p, .int .i64 a.2]
def RNode (G' : List (Nat × List Value)) (a : Nd × Int) (v : Value) : Prop := ∃ p : Pl, a.1.d.In G' p ∧ v = .tuple #[a.1.v p, .int .i64 a.2]
theorem as42_yes (a : Ag) (p : Pl) (w : World) : (Instr.typeAssert (.iface 57 (a.v p)) 20 57 true).run Tryd.prog w = .ok (.tuple #[a.v p, .bool true]) w := by kernel_rfl
theorem as42_no (w : World) : (Instr.typeAssert .nilIface 20 57 true).run Tryd.prog w = .ok (.tuple #[ag0.v .nil, .bool false]) w := by kernel_rfl
theorem as42_word (v : Value) (w : World) : (Instr.typeAssert (.iface 128 v) 20 57 true).run Tryd.prog w = .ok (.tuple #[ag0.v .nil, .bool false]) w := by kernel_rfl
theorem as42_node (v : Value) (w : World) : (Instr.typeAssert (.iface 38 v) 20 57 true).run Tryd.prog w = .ok (.tuple #[ag0.v .nil, .bool false]) w := by kernel_rfl
theorem as27_yes (a : Nd) (p : Pl) (w : World) : (Instr.typeAssert (.iface 38 (a.v p)) 20 38 true).run Tryd.prog w = .ok (.tuple #[a.v p, .bool true]) w := by kernel_rfl
theorem as27_no (w : World) : (Instr.typeAssert .nilIface 20 38 true).run Tryd.prog w = .ok (.tuple #[nd0.v .nil, .bool false]) w := by kernel_rfl
theorem as27_word (v : Value) (w : World) : (Instr.typeAssert (.iface 128 v) 20 38 true).run Tryd.prog w = .ok (.tuple #[nd0.v .nil, .bool false]) w := by kernel_rfl
theorem as27_age (v : Value) (w : World) : (Instr.typeAssert (.iface 57 v) 20 38 true).run Tryd.prog w = .ok (.tuple #[nd0.v .nil, .bool false]) w := by kernel_rfl
theorem as42_any (x : Held) : ∃ (a : Ag) (p : Pl) (ok : Bool), (∀ w, (Instr.typeAssert x.v 20 57 true).run Tryd.prog w = .ok (.tuple #[a.v p, .bool ok]) w) ∧ (∀ G, x.In G → a.d.In G p) ∧ (if ok = true then (a, (0 : Int)) else (ag0, 6)) = heldA ⟨x.e, 0, false, 0⟩ ∧ (ok = false → a = ag0 ∧ p = .nil) := by
  cases x with
  | no => exact ⟨ag0, .nil, false, as42_no, fun _ _ => rv0_in, rfl, fun _ => ⟨rfl, rfl⟩⟩
  | word n => exact ⟨ag0, .nil, false, as42_word _, fun _ _ => rv0_in, rfl, fun _ => ⟨rfl, rfl⟩⟩
  | blk d p =>
    cases d with
    | age r pv => exact ⟨⟨r, pv⟩, p, true, as42_yes ⟨r, pv⟩ p, fun G h => h _ _ rfl, rfl, fun e => (by cases e)⟩
    | node low head nx => exact ⟨ag0, .nil, false, as42_node _, fun _ _ => rv0_in, rfl, fun _ => ⟨rfl, rfl⟩⟩
theorem as27_any (x : Held) : ∃ (a : Nd) (p : Pl) (ok : Bool), (∀ w, (Instr.typeAssert x.v 20 38 true).run Tryd.prog w = .ok (.tuple #[a.v p, .bool ok]) w) ∧ (∀ G, x.In G → a.d.In G p) ∧ (if ok = true then (a, (0 : Int)) else (nd0, 6)) = heldN ⟨x.e, 0, false, 0⟩ ∧ (ok = false → a = nd0 ∧ p = .nil) := by
  cases x with
  | no => exact ⟨nd0, .nil, false, as27_no, fun _ _ => nd0_in, rfl, fun _ => ⟨rfl, rfl⟩⟩
  | word n => exact ⟨nd0, .nil, false, as27_word _, fun _ _ => nd0_in, rfl, fun _ => ⟨rfl, rfl⟩⟩
  | blk d p =>
    cases d with
    | age r pv => exact ⟨nd0, .nil, false, as27_age _, fun _ _ => nd0_in, rfl, fun _ => ⟨rfl, rfl⟩⟩
    | node low head nx => exact ⟨⟨low, head, nx⟩, p, true, as27_yes ⟨low, head, nx⟩ p, fun G h => h _ _ rfl, rfl, fun e => (by cases e)⟩
/-- A load, a store, an append in a plain region, by their runs. -/
theorem store_run {P : Program} {w w' : World} {ops : Array Oper} {rest : List Oper} {o : Oper} {a : Act} {Q : Exit → Act → World → Prop} {v y : Value} (hgd : o.guard = none) (x z : Operand) (t : TypeId)
    (ho : o.op = .store t x z) (hx : a.eval x = v) (hz : a.eval z = y) (hr : (Instr.storeAt t v y).run P w = .ok () w') (h : wpList P ops Q rest (a.put o.dst undef) w') : wpList P ops Q (o :: rest) a w := by
  refine wpList_plain hgd fun K hK => ?_
  unfold Oper.wp execOp
  simp only [ho, hx, hz, Sem.run_bind, Sem.run_pure, Result.andThen_ok, hr]
  exact hK _ _ h
theorem load_run {P : Program} {w : World} {ops : Array Oper} {rest : List Oper} {o : Oper} {a : Act} {Q : Exit → Act → World → Prop} {v u : Value} (hgd : o.guard = none) (x : Operand) (t : TypeId)
    (ho : o.op = .load t x) (hx : a.eval x = v) (hr : (Instr.loadAt t v).run P w = .ok u w) (h : wpList P ops Q rest (a.put o.dst u) w) : wpList P ops Q (o :: rest) a w := by
  refine wpList_plain hgd fun K hK => ?_
  unfold Oper.wp execOp
  simp only [ho, hx, Sem.run_bind, Sem.run_pure, Result.andThen_ok, hr]
  exact hK _ _ h
theorem append_run {P : Program} {w w' : World} {ops : Array Oper} {rest : List Oper} {o : Oper} {a : Act} {Q : Exit → Act → World → Prop} {v y u : Value} (hgd : o.guard = none) (s x : Operand) (t : TypeId)
    (ho : o.op = .call { callee := .builtin .append, args := #[s, x], argTypes := #[t, t] }) (hs : a.eval s = v) (hx : a.eval x = y)
    (hr : ∀ ty, (Builtin.append_ #[t, t] ty #[v, y]).run P w = .ok u w') (h : wpList P ops Q rest (a.put o.dst u) w') : wpList P ops Q (o :: rest) a w := by
  refine wpList_plain hgd fun K hK => ?_
  unfold Oper.wp execOp
  simp only [ho, resolve, invoke, builtin, Sem.run_bind, Sem.run_pure, Result.andThen_ok, List.map_toArray, List.map_cons, List.map_nil, hs, hx, hr]
  exact hK _ _ h
/-- How results are told. -/
theorem res_c {fn : Func} {ts : Array Value} {w : World} {a : Tmp} {t : TypeId} {p : Addr} {v : Value} (h : fn.results = #[.cell a t]) (ha : ts.getD a undef = .pointer (some p)) (hl : (loadVar t p).run Tryd.prog w = .ok v w) : (results fn ts).run Tryd.prog w = .ok v w := by
  unfold results
  rw [h]
  simp [asAddr, ha, hl, -Array.getD_eq_getD_getElem?]
theorem res_ct {fn : Func} {ts : Array Value} {w : World} {a b : Tmp} {t : TypeId} {p : Addr} {v : Value} (x : Value) (h : fn.results = #[.cell a t, .tmp b]) (ha : ts.getD a undef = .pointer (some p)) (hb : ts.getD b undef = x) (hl : (loadVar t p).run Tryd.prog w = .ok v w) : (results fn ts).run Tryd.prog w = .ok (.tuple #[v, x]) w := by
  unfold results
  rw [h]
  simp [asAddr, ha, hb, hl, -Array.getD_eq_getD_getElem?]
theorem res_cc {fn : Func} {ts : Array Value} {w : World} {a b : Tmp} {t u : TypeId} {p q : Addr} {v x : Value} (h : fn.results = #[.cell a t, .cell b u]) (ha : ts.getD a undef = .pointer (some p)) (hb : ts.getD b undef = .pointer (some q)) (hl : (loadVar t p).run Tryd.prog w = .ok v w) (hm : (loadVar u q).run Tryd.prog w = .ok x w) : (results fn ts).run Tryd.prog w = .ok (.tuple #[v, x]) w := by
  unfold results
  rw [h]
  simp [asAddr, ha, hb, hl, hm, -Array.getD_eq_getD_getElem?]
theorem res_tct {fn : Func} {ts : Array Value} {w : World} {a b c : Tmp} {t : TypeId} {p : Addr} {v : Value} (x y : Value) (h : fn.results = #[.tmp a, .cell b t, .tmp c]) (ha : ts.getD a undef = x) (hb : ts.getD b undef = .pointer (some p)) (hc : ts.getD c undef = y) (hl : (loadVar t p).run Tryd.prog w = .ok v w) : (results fn ts).run Tryd.prog w = .ok (.tuple #[x, v, y]) w := by
  unfold results
  rw [h]
  simp [asAddr, ha, hb, hc, hl, -Array.getD_eq_getD_getElem?]
theorem res_ctt {fn : Func} {ts : Array Value} {w : World} {a b c : Tmp} {t : TypeId} {p : Addr} {v : Value} (x y : Value) (h : fn.results = #[.cell a t, .tmp b, .tmp c]) (ha : ts.getD a undef = .pointer (some p)) (hb : ts.getD b undef = x) (hc : ts.getD c undef = y) (hl : (loadVar t p).run Tryd.prog w = .ok v w) : (results fn ts).run Tryd.prog w = .ok (.tuple #[v, x, y]) w := by
  unfold results
  rw [h]
  simp [asAddr, ha, hb, hc, hl, -Array.getD_eq_getD_getElem?]
end Go.Proofs.YtibimnibmengpaaDoor
/- What held comes to, of ages and of nodes. Conditions: at most 900000 asks. -/
namespace Go.Proofs.YtibimnibmengpaaDoor
open Go.RowKit Go.Op
set_option maxRecDepth 100000

def aobj : Obj := .cells #[.int .i64 0, .int .i64 0, .string { data := #[] }, .string { data := #[] }, .bool false, .bool false, .slice none 0 0, .slice none 0 0, .slice none 0 0, .slice none 0 0, .int .i64 0] 57
def nobj : Obj := .cells #[.string { data := #[] }, .int .i64 0, .slice none 0 0] 38
section
variable {w0 : World} {b c r pb po : Nat} {t : Value} {G : List (Nat × List Value)} {w : World} {m : M} {s : Pt}
set_option maxHeartbeats 1000000 in
theorem heldA_E (h : SysE w0 b c r pb po t G w m s) (hc : m.count ≤ 900000) (k : Int) :
    Calls Tryd.prog 100 #[.pointer (some ⟨pb, po, none⟩), .int .i64 k] w fun e w' => Ev w0 b c r pb po t G w RAge ((takeP k).run s m) e w' := by
  obtain ⟨wa, hwa⟩ : ∃ W, W = (w.alloc aobj).alloc aobj := ⟨_, rfl⟩
  have hsz : (w.alloc aobj).heap.size = w.heap.size + 1 := by simp
  have b1 := (Below.refl w.heap.size w).alloc (Nat.le_refl _) aobj
  have b2 := (Below.refl (w.alloc aobj).heap.size (w.alloc aobj)).alloc (Nat.le_refl _) aobj
  have ba : Below w.heap.size w wa := by rw [hwa]; exact b1.alloc (by simp) _
  have va : SVar wa w.heap.size (ag0.row .nil) := by rw [hwa]; exact (snew w (ag0.row .nil) 57).later b2
  have vb : SVar wa (w.heap.size + 1) (ag0.row .nil) := by
    have := snew (w.alloc aobj) (ag0.row .nil) 57
    rw [hsz] at this
    rw [hwa]; exact this
  have la : Loc w0 b c r pb t G wa w.heap.size := by rw [hwa]; exact (h.fresh aobj).same b2.size
  have lb : Loc w0 b c r pb t G wa (w.heap.size + 1) := by
    have := (h.later b1).fresh aobj
    rw [hsz] at this
    rw [hwa]; exact this
  have hl := eload (h.later ba) hc k
  have HW := Lib.hid hwa.symm
  have HB := Lib.hid ba
  have HVA := Lib.hid va
  have HVB := Lib.hid vb
  have HLA := Lib.hid la
  have HLB := Lib.hid lb
  unfold aobj at HW
  clear h hwa hsz b1 b2 ba va vb la lb
  go_enter Tryd.func100, Tryd.ntmps100
  go_wp2_with (first | rw [HW.out] | fail)
  refine hl.mono ?_
  rintro e w1 hE
  rcases hE.cases with ⟨t1, G1, s1, m1, ho, rfl, ha⟩ | ⟨t1, G1, s1, m1, a, v, ho, rfl, ⟨x, hx, hi, rfl⟩, ha⟩
  · have HE : Hid (Ev w0 b c r pb po t G w RAge ((takeP k).run s m) (Halt pb po) w1) := Ev.die (by rw [takeP, Pr.run_ask, ho]) (ha.back HB.out)
    clear hl hE ho ha
    unfold Halt
    go_wp2
    exact ⟨rfl, HE.out⟩
  · obtain ⟨v1, l1⟩ := ha.svar HLA.out HVA.out
    obtain ⟨v2, _⟩ := ha.svar HLB.out HVB.out
    have hrun : (takeP k).run s m = (some (heldA a), s1, m1) := by rw [takeP, Pr.run_ask, ho]; simp only [Pr.run]
    have ha1 := ha.back HB.out
    have hz := v1.lt
    have hz2 := v2.lt
    have fz := v1.fz
    by_cases herr : a.err = 0
    · obtain ⟨d, p, ok, has, hdi, hval, hno⟩ := as42_any x
      have hR : heldA a = heldA ⟨x.e, 0, false, 0⟩ := by unfold heldA; rw [herr, hx]
      have hf : ∀ (d' : Ag) (p' : Pl), d' = (heldA a).1 → d'.d.In G1 p' → Hid (Ev w0 b c r pb po t G w RAge ((takeP k).run s m) (.returned (.tuple #[d'.v p', .int .i64 (heldA a).2])) (sput (w1.alloc (.cells (d'.row p').toArray 57)) w.heap.size (d'.row p')) ∧ (loadVar 57 ⟨w.heap.size, 0, none⟩).run Tryd.prog (sput (w1.alloc (.cells (d'.row p').toArray 57)) w.heap.size (d'.row p')) = .ok (d'.v p') (sput (w1.alloc (.cells (d'.row p').toArray 57)) w.heap.size (d'.row p'))) := fun d' p' e1 e2 =>
        have hb := (Below.refl w1.heap.size w1).alloc (Nat.le_refl _) (.cells (d'.row p').toArray 57)
        ⟨Ev.ret hrun ⟨p', by rw [← e1]; exact e2, by rw [← e1]⟩ ((ha1.later hb).aside (But.sput _ _ _) (l1.same hb.size) (Nat.le_refl _)), ((v1.later hb).put (row' := d'.row p') rfl).loadVar sh42⟩
      rw [herr]
      cases ok with
      | true =>
        have HF := hf d p (by rw [hR, ← hval]; rfl) (hdi _ hi)
        rw [show (heldA a).2 = 0 by rw [hR, ← hval]; rfl] at HF
        have hld := (snew w1 (d.row p) 57).load sh42
        have hst := (v1.later ((Below.refl w1.heap.size w1).alloc (Nat.le_refl _) (.cells (d.row p).toArray 57))).store (row' := d.row p) rfl sh42 (d.row_one p)
        generalize sput (w1.alloc (.cells (d.row p).toArray 57)) w.heap.size (d.row p) = W at hst HF
        unfold Ag.v at has
        simp only [Ag.row] at hld hst
        clear hl hE ho ha v1 l1 v2 hrun ha1 herr hdi hval hno hf hR hi hx
        go_wp2_with (first | ((with_reducible refine load_run ?_ (.tmp 9) 57 ?_ ?_ hld ?_); exact rfl; exact rfl; exact rfl) | ((with_reducible refine store_run ?_ (.tmp 4) (.tmp 27) 57 ?_ ?_ ?_ hst ?_); exact rfl; exact rfl; exact rfl; exact rfl))
        exact bodyPost_ret (res_ct (.int .i64 0) Tryd.results100 rfl rfl HF.out.2) rfl HF.out.1
      | false =>
        obtain ⟨rfl, rfl⟩ := hno rfl
        have HF := hf ag0 .nil (by rw [hR, ← hval]; rfl) rv0_in
        rw [show (heldA a).2 = 6 by rw [hR, ← hval]; rfl] at HF
        have hld := (v2.later ((Below.refl w1.heap.size w1).alloc (Nat.le_refl _) (.cells (ag0.row .nil).toArray 57))).load sh42
        have hst := (v1.later ((Below.refl w1.heap.size w1).alloc (Nat.le_refl _) (.cells (ag0.row .nil).toArray 57))).store (row' := ag0.row .nil) rfl sh42 (ag0.row_one .nil)
        generalize sput (w1.alloc (.cells (ag0.row .nil).toArray 57)) w.heap.size (ag0.row .nil) = W at hst HF
        simp only [Ag.v, ag0, rv0, Pl.nil, Sl.nil] at has
        simp only [Ag.row, ag0, rv0, Pl.nil, Sl.nil] at hld hst
        clear hl hE ho ha v1 l1 v2 hrun ha1 herr hdi hval hno hf hR hi hx
        go_wp2_with (first | ((with_reducible refine load_run ?_ (.tmp 6) 57 ?_ ?_ hld ?_); exact rfl; exact rfl; exact rfl) | ((with_reducible refine store_run ?_ (.tmp 4) (.tmp 28) 57 ?_ ?_ ?_ hst ?_); exact rfl; exact rfl; exact rfl; exact rfl))
        exact bodyPost_ret (res_ct (.int .i64 6) Tryd.results100 rfl rfl HF.out.2) rfl HF.out.1
    · have hR : heldA a = (ag0, a.err) := by unfold heldA; rw [if_neg herr]
      have HF : Hid (Ev w0 b c r pb po t G w RAge ((takeP k).run s m) (.returned (.tuple #[ag0.v .nil, .int .i64 a.err])) (sput w1 w.heap.size (ag0.row .nil)) ∧ (loadVar 57 ⟨w.heap.size, 0, none⟩).run Tryd.prog (sput w1 w.heap.size (ag0.row .nil)) = .ok (ag0.v .nil) (sput w1 w.heap.size (ag0.row .nil))) :=
        ⟨Ev.ret hrun ⟨.nil, by rw [hR]; exact rv0_in, by rw [hR]⟩ (ha1.aside (But.sput _ _ _) l1 (Nat.le_refl _)), (v1.put (row' := ag0.row .nil) rfl).loadVar sh42⟩
      have hld := v2.load sh42
      have hst := v1.store (row' := ag0.row .nil) rfl sh42 (ag0.row_one .nil)
      generalize sput w1 w.heap.size (ag0.row .nil) = W at hst HF
      simp only [Ag.row, ag0, rv0, Pl.nil, Sl.nil] at hld hst
      clear hl hE ho ha v1 l1 v2 hrun ha1 hR hi hx
      go_wp2_with (first | ((with_reducible refine load_run ?_ (.tmp 6) 57 ?_ ?_ hld ?_); exact rfl; exact rfl; exact rfl) | ((with_reducible refine store_run ?_ (.tmp 4) (.tmp 19) 57 ?_ ?_ ?_ hst ?_); exact rfl; exact rfl; exact rfl; exact rfl))
      exact bodyPost_ret (res_ct (.int .i64 a.err) Tryd.results100 rfl rfl HF.out.2) rfl HF.out.1
set_option maxHeartbeats 1000000 in
theorem heldN_E (h : SysE w0 b c r pb po t G w m s) (hc : m.count ≤ 900000) (k : Int) :
    Calls Tryd.prog 50 #[.pointer (some ⟨pb, po, none⟩), .int .i64 k] w fun e w' => Ev w0 b c r pb po t G w RNode ((loadP k).run s m) e w' := by
  obtain ⟨wa, hwa⟩ : ∃ W, W = (w.alloc nobj).alloc nobj := ⟨_, rfl⟩
  have hsz : (w.alloc nobj).heap.size = w.heap.size + 1 := by simp
  have b1 := (Below.refl w.heap.size w).alloc (Nat.le_refl _) nobj
  have b2 := (Below.refl (w.alloc nobj).heap.size (w.alloc nobj)).alloc (Nat.le_refl _) nobj
  have ba : Below w.heap.size w wa := by rw [hwa]; exact b1.alloc (by simp) _
  have va : SVar wa w.heap.size (nd0.row .nil) := by rw [hwa]; exact (snew w (nd0.row .nil) 38).later b2
  have vb : SVar wa (w.heap.size + 1) (nd0.row .nil) := by
    have := snew (w.alloc nobj) (nd0.row .nil) 38
    rw [hsz] at this
    rw [hwa]; exact this
  have la : Loc w0 b c r pb t G wa w.heap.size := by rw [hwa]; exact (h.fresh nobj).same b2.size
  have lb : Loc w0 b c r pb t G wa (w.heap.size + 1) := by
    have := (h.later b1).fresh nobj
    rw [hsz] at this
    rw [hwa]; exact this
  have hl := eload (h.later ba) hc k
  have HW := Lib.hid hwa.symm
  have HB := Lib.hid ba
  have HVA := Lib.hid va
  have HVB := Lib.hid vb
  have HLA := Lib.hid la
  have HLB := Lib.hid lb
  unfold nobj at HW
  clear h hwa hsz b1 b2 ba va vb la lb
  go_enter Tryd.func50, Tryd.ntmps50
  go_wp2_with (first | rw [HW.out] | fail)
  refine hl.mono ?_
  rintro e w1 hE
  rcases hE.cases with ⟨t1, G1, s1, m1, ho, rfl, ha⟩ | ⟨t1, G1, s1, m1, a, v, ho, rfl, ⟨x, hx, hi, rfl⟩, ha⟩
  · have HE : Hid (Ev w0 b c r pb po t G w RNode ((loadP k).run s m) (Halt pb po) w1) := Ev.die (by rw [loadP, Pr.run_ask, ho]) (ha.back HB.out)
    clear hl hE ho ha
    unfold Halt
    go_wp2
    exact ⟨rfl, HE.out⟩
  · obtain ⟨v1, l1⟩ := ha.svar HLA.out HVA.out
    obtain ⟨v2, _⟩ := ha.svar HLB.out HVB.out
    have hrun : (loadP k).run s m = (some (heldN a), s1, m1) := by rw [loadP, Pr.run_ask, ho]; simp only [Pr.run]
    have ha1 := ha.back HB.out
    have hz := v1.lt
    have hz2 := v2.lt
    have fz := v1.fz
    by_cases herr : a.err = 0
    · obtain ⟨d, p, ok, has, hdi, hval, hno⟩ := as27_any x
      have hR : heldN a = heldN ⟨x.e, 0, false, 0⟩ := by unfold heldN; rw [herr, hx]
      have hf : ∀ (d' : Nd) (p' : Pl), d' = (heldN a).1 → d'.d.In G1 p' → Hid (Ev w0 b c r pb po t G w RNode ((loadP k).run s m) (.returned (.tuple #[d'.v p', .int .i64 (heldN a).2])) (sput (w1.alloc (.cells (d'.row p').toArray 38)) w.heap.size (d'.row p')) ∧ (loadVar 38 ⟨w.heap.size, 0, none⟩).run Tryd.prog (sput (w1.alloc (.cells (d'.row p').toArray 38)) w.heap.size (d'.row p')) = .ok (d'.v p') (sput (w1.alloc (.cells (d'.row p').toArray 38)) w.heap.size (d'.row p'))) := fun d' p' e1 e2 =>
        have hb := (Below.refl w1.heap.size w1).alloc (Nat.le_refl _) (.cells (d'.row p').toArray 38)
        ⟨Ev.ret hrun ⟨p', by rw [← e1]; exact e2, by rw [← e1]⟩ ((ha1.later hb).aside (But.sput _ _ _) (l1.same hb.size) (Nat.le_refl _)), ((v1.later hb).put (row' := d'.row p') rfl).loadVar sh27⟩
      rw [herr]
      cases ok with
      | true =>
        have HF := hf d p (by rw [hR, ← hval]; rfl) (hdi _ hi)
        rw [show (heldN a).2 = 0 by rw [hR, ← hval]; rfl] at HF
        have hld := (snew w1 (d.row p) 38).load sh27
        have hst := (v1.later ((Below.refl w1.heap.size w1).alloc (Nat.le_refl _) (.cells (d.row p).toArray 38))).store (row' := d.row p) rfl sh27 (d.row_one p)
        generalize sput (w1.alloc (.cells (d.row p).toArray 38)) w.heap.size (d.row p) = W at hst HF
        unfold Nd.v at has
        simp only [Nd.row] at hld hst
        clear hl hE ho ha v1 l1 v2 hrun ha1 herr hdi hval hno hf hR hi hx
        go_wp2_with (first | ((with_reducible refine load_run ?_ (.tmp 9) 38 ?_ ?_ hld ?_); exact rfl; exact rfl; exact rfl) | ((with_reducible refine store_run ?_ (.tmp 4) (.tmp 27) 38 ?_ ?_ ?_ hst ?_); exact rfl; exact rfl; exact rfl; exact rfl))
        exact bodyPost_ret (res_ct (.int .i64 0) Tryd.results50 rfl rfl HF.out.2) rfl HF.out.1
      | false =>
        obtain ⟨rfl, rfl⟩ := hno rfl
        have HF := hf nd0 .nil (by rw [hR, ← hval]; rfl) nd0_in
        rw [show (heldN a).2 = 6 by rw [hR, ← hval]; rfl] at HF
        have hld := (v2.later ((Below.refl w1.heap.size w1).alloc (Nat.le_refl _) (.cells (nd0.row .nil).toArray 38))).load sh27
        have hst := (v1.later ((Below.refl w1.heap.size w1).alloc (Nat.le_refl _) (.cells (nd0.row .nil).toArray 38))).store (row' := nd0.row .nil) rfl sh27 (nd0.row_one .nil)
        generalize sput (w1.alloc (.cells (nd0.row .nil).toArray 38)) w.heap.size (nd0.row .nil) = W at hst HF
        simp only [Nd.v, nd0, Pl.nil, Sl.nil] at has
        simp only [Nd.row, nd0, Pl.nil, Sl.nil] at hld hst
        clear hl hE ho ha v1 l1 v2 hrun ha1 herr hdi hval hno hf hR hi hx
        go_wp2_with (first | ((with_reducible refine load_run ?_ (.tmp 6) 38 ?_ ?_ hld ?_); exact rfl; exact rfl; exact rfl) | ((with_reducible refine store_run ?_ (.tmp 4) (.tmp 28) 38 ?_ ?_ ?_ hst ?_); exact rfl; exact rfl; exact rfl; exact rfl))
        exact bodyPost_ret (res_ct (.int .i64 6) Tryd.results50 rfl rfl HF.out.2) rfl HF.out.1
    · have hR : heldN a = (nd0, a.err) := by unfold heldN; rw [if_neg herr]
      have HF : Hid (Ev w0 b c r pb po t G w RNode ((loadP k).run s m) (.returned (.tuple #[nd0.v .nil, .int .i64 a.err])) (sput w1 w.heap.size (nd0.row .nil)) ∧ (loadVar 38 ⟨w.heap.size, 0, none⟩).run Tryd.prog (sput w1 w.heap.size (nd0.row .nil)) = .ok (nd0.v .nil) (sput w1 w.heap.size (nd0.row .nil))) :=
        ⟨Ev.ret hrun ⟨.nil, by rw [hR]; exact nd0_in, by rw [hR]⟩ (ha1.aside (But.sput _ _ _) l1 (Nat.le_refl _)), (v1.put (row' := nd0.row .nil) rfl).loadVar sh27⟩
      have hld := v2.load sh27
      have hst := v1.store (row' := nd0.row .nil) rfl sh27 (nd0.row_one .nil)
      generalize sput w1 w.heap.size (nd0.row .nil) = W at hst HF
      simp only [Nd.row, nd0, Pl.nil, Sl.nil] at hld hst
      clear hl hE ho ha v1 l1 v2 hrun ha1 hR hi hx
      go_wp2_with (first | ((with_reducible refine load_run ?_ (.tmp 6) 38 ?_ ?_ hld ?_); exact rfl; exact rfl; exact rfl) | ((with_reducible refine store_run ?_ (.tmp 4) (.tmp 19) 38 ?_ ?_ ?_ hst ?_); exact rfl; exact rfl; exact rfl; exact rfl))
      exact bodyPost_ret (res_ct (.int .i64 a.err) Tryd.results50 rfl rfl HF.out.2) rfl HF.out.1
end
end Go.Proofs.YtibimnibmengpaaDoor
/- Rows of numbers that a function reads, and that it makes by append, beside port and memory. No condition. -/
namespace Go.Proofs.YtibimnibmengpaaDoor
open Go.RowKit Go.Op
set_option maxRecDepth 100000

theorem ints_get {l : List Int} {i : Nat} {x : Int} (h : l[i]? = some x) : (ints l)[i]? = some (.int .i64 x) := by simp [ints, h]
theorem ints_length (l : List Int) : (ints l).length = l.length := List.length_map ..
theorem ints_one (l : List Int) : ∀ u ∈ ints l, u.oneCell' = true := by
  intro u hu
  obtain ⟨_, _, rfl⟩ := List.mem_map.1 hu
  rfl
theorem info3 : (Tryd.prog.info? 3).map (fun i => (i.zero, i.size, i.bytes)) = some (some (.int .i64 0), 1, 8) := by kernel_rfl
/-- A row that a slice names, in a block of the caller's own or among rows that nobody changes. -/
def IRow (w0 : World) (b c r pb : Nat) (t : Value) (G : List (Nat × List Value)) (w : World) (a : Option Addr) (l : List Int) : Prop :=
  l = [] ∨ ∃ g o, a = some ⟨g, o, none⟩ ∧ ((Loc w0 b c r pb t G w g ∧ w.rangeAt g o (ints l)) ∨ ∃ x, (g, x) ∈ G ∧ ∀ i y, (ints l)[i]? = some y → x[o + i]? = some y)
/-- A row that was made by append. -/
structure ORow (w0 : World) (b c r pb : Nat) (t : Value) (G : List (Nat × List Value)) (w : World) (v : Value) (l : List Int) : Prop where
  own : w.ownsRow w0.heap.size 3 1 v l.length (ints l)
  loc : ∀ g, v.ownBlock = some g → Loc w0 b c r pb t G w g
section
variable {w0 : World} {b c r pb po : Nat} {t t1 : Value} {G G1 : List (Nat × List Value)} {w w1 w2 : World} {m m1 : M} {s s1 : Pt} {a : Option Addr} {l : List Int} {v : Value}
theorem rangeAt_same {g o : Nat} {x : List Value} (h : w.rangeAt g o x) (hb : w1.heap[g]? = w.heap[g]?) : w1.rangeAt g o x := fun j v hj => by
  rw [World.cell?_of_block (w := w) (a := ⟨g, o + j, none⟩) hb]; exact h j v hj
theorem IRow.aft (h : IRow w0 b c r pb t G w a l) (ha : Aft w0 b c r pb po t G w t1 G1 w1 m1 s1) : IRow w0 b c r pb t1 G1 w1 a l := by
  refine h.imp id fun ⟨g, o, e, h2⟩ => ⟨g, o, e, ?_⟩
  rcases h2 with ⟨h3, h4⟩ | ⟨x, h3, h4⟩
  · exact .inl ⟨(h3.aft ha).1, rangeAt_same h4 (h3.aft ha).2⟩
  · exact .inr ⟨x, ha.gro.1 _ h3, h4⟩
theorem IRow.later (h : IRow w0 b c r pb t G w a l) (hb : Below w.heap.size w w1) : IRow w0 b c r pb t G w1 a l := by
  refine h.imp id fun ⟨g, o, e, h2⟩ => ⟨g, o, e, h2.imp (fun ⟨h3, h4⟩ => ⟨h3.same hb.size, rangeAt_same h4 (hb.block g h3.lt)⟩) id⟩
theorem IRow.cell (h : IRow w0 b c r pb t G w a l) (hs : SysE w0 b c r pb po t G w m s) {i : Nat} {x : Int} (hx : l[i]? = some x) : ∃ g o, a = some ⟨g, o, none⟩ ∧ w.cell? ⟨g, o + i, none⟩ = some (.int .i64 x) := by
  rcases h with rfl | ⟨g, o, e, h2⟩
  · simp at hx
  · refine ⟨g, o, e, ?_⟩
    rcases h2 with ⟨_, h4⟩ | ⟨y, h3, h4⟩
    · exact h4 i _ (ints_get hx)
    · obtain ⟨m0, s0, h1, -⟩ := hs
      exact (h1.rows g y h3).1.at_ _ _ (h4 i _ (ints_get hx))
theorem IRow.range (h : IRow w0 b c r pb t G w a l) (hs : SysE w0 b c r pb po t G w m s) (h0 : l ≠ []) : ∃ g o, a = some ⟨g, o, none⟩ ∧ w.rangeAt g o (ints l) := by
  rcases h with rfl | ⟨g, o, e, h2⟩
  · exact absurd rfl h0
  · refine ⟨g, o, e, ?_⟩
    rcases h2 with ⟨_, h4⟩ | ⟨y, h3, h4⟩
    · exact h4
    · obtain ⟨m0, s0, h1, -⟩ := hs
      exact fun j u hj => (h1.rows g y h3).1.at_ _ _ (h4 j u hj)
theorem IRow.drop (h : IRow w0 b c r pb t G w a l) {g o : Nat} (e : a = some ⟨g, o, none⟩) (k : Nat) : IRow w0 b c r pb t G w (some ⟨g, o + k, none⟩) (l.drop k) := by
  rcases h with rfl | ⟨g', o', e', h2⟩
  · exact .inl List.drop_nil
  · rw [e] at e'
    cases e'
    have hd : ∀ j : Nat, (ints (l.drop k))[j]? = (ints l)[k + j]? := fun j => by simp [ints, List.getElem?_drop]
    refine .inr ⟨g, o + k, rfl, h2.imp (fun ⟨h3, h4⟩ => ⟨h3, fun j u hj => ?_⟩) fun ⟨x, h3, h4⟩ => ⟨x, h3, fun j u hj => ?_⟩⟩
    · rw [Nat.add_assoc]; exact h4 (k + j) u (by rw [← hd]; exact hj)
    · rw [Nat.add_assoc]; exact h4 (k + j) u (by rw [← hd]; exact hj)
theorem ORow.nil (w : World) : ORow w0 b c r pb t G w (.slice none 0 0) [] := ⟨World.ownsRow_nil _ _ _ _, fun g e => (by cases e)⟩
theorem ORow.same (h : ORow w0 b c r pb t G w v l) (hl : ∀ g, v.ownBlock = some g → Loc w0 b c r pb t1 G1 w1 g ∧ w1.heap[g]? = w.heap[g]?) : ORow w0 b c r pb t1 G1 w1 v l := by
  refine ⟨⟨h.own.1, h.own.2.imp id ?_⟩, fun g e => (hl g e).1⟩
  rintro ⟨g, cap, cur, e, q⟩
  exact ⟨g, cap, cur, e, q.1, by rw [(hl g (by rw [e]; rfl)).2]; exact q.2.1, q.2.2⟩
theorem ORow.aft (h : ORow w0 b c r pb t G w v l) (ha : Aft w0 b c r pb po t G w t1 G1 w1 m1 s1) : ORow w0 b c r pb t1 G1 w1 v l := h.same fun g e => (h.loc g e).aft ha
theorem ORow.later (h : ORow w0 b c r pb t G w v l) (hb : Below w.heap.size w w1) : ORow w0 b c r pb t G w1 v l := h.same fun g e => ⟨(h.loc g e).same hb.size, hb.block g (h.loc g e).lt⟩
/-- What such a slice is. -/
theorem ORow.val (h : ORow w0 b c r pb t G w v l) : ∃ a cap, v = .slice a l.length cap ∧ l.length ≤ cap ∧ IRow w0 b c r pb t G w a l ∧ (∀ g o, a = some ⟨g, o, none⟩ → o = 0) := by
  rcases id h.own.2 with ⟨e, e2⟩ | ⟨g, cap, cur, e, q1, q2, q3, -⟩
  · exact ⟨none, 0, by rw [e, e2], by omega, .inl (List.length_eq_zero_iff.1 e2), fun g o e => (by cases e)⟩
  · refine ⟨_, cap, e, q3, .inr ⟨g, 0, rfl, .inl ⟨h.loc g (by rw [e]; rfl), fun j u hj => ?_⟩⟩, fun g o e => by cases e; rfl⟩
    have := World.ownsRow.cells h.own (g := g) (by rw [e]; rfl) j u hj
    rwa [add_off] at this
/-- Its rows stand among rows that nobody changes. -/
theorem SysE.freeze {g : Nat} {x : List Value} (h : SysE w0 b c r pb po t G w m s) (hl : Loc w0 b c r pb t G w g) (hr : Rw w g x) : SysE w0 b c r pb po t ((g, x) :: G) w m s := by
  obtain ⟨m0, s0, h1, h2, h3, h4⟩ := h
  have hs : ∀ y, y ∈ G → y ∈ (g, x) :: G := fun y hy => List.mem_cons_of_mem _ hy
  refine ⟨m0, s0, ⟨h1.has, h1.pt, h1.nb, h1.tb, h1.hp, fun g' l' hx => ?_⟩, h2.more hs, h3.more hs, h4⟩
  rcases List.mem_cons.1 hx with e | e
  · cases e
    exact ⟨hr, hl.ge, hl.ne.1, hl.ne.2.1, hl.ne.2.2.1, hl.ne.2.2.2, hl.nt⟩
  · exact h1.rows g' l' e
theorem Aft.freeze {g : Nat} {x : List Value} (h : Aft w0 b c r pb po t G w t1 G1 w1 m1 s1) (hl : Loc w0 b c r pb t1 G1 w1 g) (hg : w.heap.size ≤ g) (hr : Rw w1 g x) : Aft w0 b c r pb po t G w t1 ((g, x) :: G1) w1 m1 s1 := by
  refine ⟨h.sys.freeze hl hr, h.but, h.row, ⟨fun y hy => List.mem_cons_of_mem _ (h.gro.1 y hy), fun y hy => ?_⟩⟩
  rcases List.mem_cons.1 hy with e | e
  · cases e; exact .inr hg
  · exact h.gro.2 y e
theorem Loc.freeze {g z : Nat} {x : List Value} (h : Loc w0 b c r pb t G w z) (hne : g ≠ z) : Loc w0 b c r pb t ((g, x) :: G) w z :=
  ⟨h.lt, h.ge, h.ne, h.nt, fun y hy => by
    rcases List.mem_cons.1 hy with e | e
    · cases e; exact hne
    · exact h.ng y e⟩
/-- More is appended. -/
theorem ORow.app (h : ORow w0 b c r pb t1 G1 w1 v l) (hs : Aft w0 b c r pb po t G w t1 G1 w1 m1 s1) (hv : ∀ z, v.ownBlock = some z → w.heap.size ≤ z) (ad : Addr) (cap : Nat) (k : List Int) (hk : ∀ j u, (ints k)[j]? = some u → w1.cell? (ad.add j) = some u) (hl : l.length + k.length ≤ 1000000) (ty : TypeId) :
    ∃ v' w2, (Builtin.append_ #[27, 27] ty #[v, .slice (some ad) k.length cap]).run Tryd.prog w1 = .ok v' w2 ∧ Aft w0 b c r pb po t G w t1 G1 w2 m1 s1 ∧ ORow w0 b c r pb t1 G1 w2 v' (l ++ k) ∧ (∀ z, v'.ownBlock = some z → w.heap.size ≤ z) ∧ w1.heap.size ≤ w2.heap.size ∧ ∀ z, z < w1.heap.size → v.ownBlock ≠ some z → w2.heap[z]? = w1.heap[z]? := by
  obtain ⟨i0, hi, hz0, hz1, hz2⟩ := info_parts info3
  obtain ⟨m0, s0, q1, q2⟩ := id hs.sys
  have hB := q1.has.below.size
  obtain ⟨v', w', hr, ho, hg, _, hn⟩ := run_append_own_at w1 w0.heap.size 27 ty 3 i0 _ 1 8 Tryd.underlying27 hi hz0 hz1 hz2 rfl (by decide) v _ _ h.own ad k.length cap (ints k) (by rw [ints_length]; omega) hk (ints_one k) (by unfold maxLen; omega) (by omega) hB
  have hsz := hg.size
  have hA : Aft w0 b c r pb po t G w t1 G1 w' m1 s1 := by
    cases hvb : v.ownBlock with
    | none =>
      exact hs.later ⟨hg.os, hg.tape, hg.output, hg.size, fun k hk => hg.block k hk (by rw [hvb]; intro e; cases e)⟩
    | some z =>
      exact hs.aside (z := z) ⟨hg.os, hg.tape, hg.output, hg.size, fun k hk hz => hg.block k hk (by rw [hvb]; intro e; cases e; exact hz rfl)⟩ (h.loc z hvb) (hv z hvb)
  refine ⟨v', w', hr, hA, ⟨?_, fun g e => ?_⟩, fun z e => ?_, hsz, fun z hz hne => hg.block z hz (fun e => hne e.symm)⟩
  · have := ho
    rw [show ints l ++ ints k = ints (l ++ k) by simp [ints]] at this
    rw [List.length_append]; exact this
  · rcases hn with e2 | e2
    · exact (h.loc g (e2 ▸ e)).same hsz
    · rw [e2] at e
      cases e
      have o := q1.has.at_.own
      have h2 := q1.pt.lt
      have h3 := o.lb
      have h4 := o.lc
      have h5 := o.lr
      exact ⟨(World.ownsRow.lt ho _ e2).2, hB, ⟨by omega, by omega, by omega, by omega⟩, fun e => by
        have := (World.ownsRow.lt q1.pt.own _ e).2
        omega, fun x hx e => by
        have := (q1.rows x.1 x.2 hx).1.lt
        omega⟩
  · rcases hn with e2 | e2
    · exact hv z (e2 ▸ e)
    · rw [e2] at e
      cases e
      exact hs.but.size
end
/-- An append in a plain region, by what it comes to. -/
theorem append_run2 {P : Program} {w : World} {ops : Array Oper} {rest : List Oper} {o : Oper} {a : Act} {Q : Exit → Act → World → Prop} {v y : Value} {R : Value → World → Prop} (hgd : o.guard = none) (s x : Operand) (t : TypeId)
    (ho : o.op = .call { callee := .builtin .append, args := #[s, x], argTypes := #[t, t] }) (hs : a.eval s = v) (hx : a.eval x = y)
    (hr : ∀ ty, ∃ u w', (Builtin.append_ #[t, t] ty #[v, y]).run P w = .ok u w' ∧ R u w') (h : ∀ u w', R u w' → wpList P ops Q rest (a.put o.dst u) w') : wpList P ops Q (o :: rest) a w := by
  refine wpList_plain hgd fun K hK => ?_
  obtain ⟨u, w', h1, h2⟩ := hr o.type
  unfold Oper.wp execOp
  simp only [ho, resolve, invoke, builtin, Sem.run_bind, Sem.run_pure, Result.andThen_ok, List.map_toArray, List.map_cons, List.map_nil, hs, hx, h1]
  exact hK _ _ (h u w' h2)
end Go.Proofs.YtibimnibmengpaaDoor
/- What free, undo come to. Conditions: at most 700000 asks; at most 100000 cells. -/
namespace Go.Proofs.YtibimnibmengpaaDoor
open Go.RowKit Go.Op
set_option maxRecDepth 100000

def RInt (_ : List (Nat × List Value)) (a : Int) (v : Value) : Prop := v = .int .i64 a
def RInt2 (_ : List (Nat × List Value)) (a : Int × Int) (v : Value) : Prop := v = .tuple #[.int .i64 a.1, .int .i64 a.2]
def freeP : List Int → Pr Int
  | [] => .ret 0
  | h :: l => .ask (.free h) fun a => if a.err = 0 then freeP l else .ret a.err
theorem freeP_cons (h : Int) (l : List Int) : freeP (h :: l) = .ask (.free h) fun a => if a.err = 0 then freeP l else .ret a.err := rfl
/-- At a loop's head: what was asked so far, what is left of a program. -/
def LHead {α : Type} (w0 : World) (b c r pb po : Nat) (t : Value) (G : List (Nat × List Value)) (w : World) (m : M) (whole : Option α × Pt × M) (p : Pr α) (K : Int) (X : Value → List (Nat × List Value) → World → Prop) (wr : World) : Prop :=
  ∃ t1 G1 m1 s1, Aft w0 b c r pb po t G w t1 G1 wr m1 s1 ∧ whole = p.run s1 m1 ∧ m1.count ≤ m.count + K ∧ X t1 G1 wr
section
variable {w0 : World} {b c r pb po : Nat} {t t1 : Value} {G G1 : List (Nat × List Value)} {w w1 w2 : World} {m m1 : M} {s s1 : Pt}
set_option maxHeartbeats 1000000 in
theorem free_E (h : SysE w0 b c r pb po t G w m s) (hc : m.count ≤ 700000) (a : Option Addr) (cap : Nat) (l : List Int) (hl : l.length ≤ 100000) (hr : IRow w0 b c r pb t G w a l) :
    Calls Tryd.prog 82 #[.pointer (some ⟨pb, po, none⟩), .slice a l.length cap] w fun e w' => Ev w0 b c r pb po t G w RInt ((freeP l).run s m) e w' := by
  have HH : Hid (LHead w0 b c r pb po t G w m ((freeP l).run s m) (freeP (l.drop 0)) ((0 : Nat) : Int) (fun t1 G1 w1 => IRow w0 b c r pb t1 G1 w1 a l) w) := ⟨t, G, m, s, Aft.refl h, rfl, by omega, hr⟩
  have hl2 : (l.length : Int) ≤ 100000 := by omega
  have HN : Hid (∃ n, n = l.length) := ⟨_, rfl⟩
  obtain ⟨n, hn⟩ := HN.out
  have HE := Lib.hid hn
  rw [← hn] at hl2 hl ⊢
  clear h hr HN hn
  go_enter Tryd.func82, Tryd.ntmps82
  go_wp2_with fail
  go_loopw [10] (fun iv wr => ∃ i : Nat, iv = .int .i64 (i : Int) ∧ i ≤ n ∧ Hid (LHead w0 b c r pb po t G w m ((freeP l).run s m) (freeP (l.drop i)) (i : Int) (fun t1 G1 w1 => IRow w0 b c r pb t1 G1 w1 a l) wr)) (fun iv _ => n - (intOf iv).toNat)
  case atStart => exact ⟨0, rfl, Nat.zero_le _, HH⟩
  case round =>
    obtain ⟨i, rfl, hi, hR⟩ := hrel
    clear HH
    obtain ⟨t1, G1, m1, s1, ha, hrun, hct, hrow⟩ := hR.out
    have HA := Lib.hid ha
    have HRun := Lib.hid hrun
    have HC := Lib.hid hct
    have HRow := Lib.hid hrow
    have hc1 : m1.count ≤ 900000 := by omega
    by_cases hlt : i < n
    · have i1 : (i : Int) < (n : Int) := by omega
      obtain ⟨x, hx⟩ : ∃ x, l[i]? = some x := ⟨_, List.getElem?_eq_getElem (by rw [← HE.out]; exact hlt)⟩
      have hdrop : l.drop i = x :: l.drop (i + 1) := by
        rw [List.drop_eq_getElem_cons (by rw [← HE.out]; exact hlt)]
        rw [List.getElem?_eq_getElem (by rw [← HE.out]; exact hlt)] at hx
        cases hx; rfl
      obtain ⟨g, o, eg, hcell⟩ := hrow.cell ha.sys hx
      have hf := efree ha.sys hc1 x
      have HDr := Lib.hid hdrop
      clear hR ha hrun hct hrow hdrop hx
      subst eg
      go_wp2_with fail
      refine hf.mono ?_
      rintro e w2 hE
      have hac := ask_count s1 (.free x) m1
      rcases hE.cases with ⟨t2, G2, s2, m2, ho, rfl, ha⟩ | ⟨t2, G2, s2, m2, y, v, ho, rfl, rfl, ha⟩
      · have HX : Hid (Ev w0 b c r pb po t G w RInt ((freeP l).run s m) (Halt pb po) w2) := Ev.die (by rw [HRun.out, HDr.out, freeP_cons, Pr.run_ask, ho]) (HA.out.trans ha)
        clear hf hE ho ha hac
        unfold Halt
        go_wp2
        exact ⟨rfl, HX.out⟩
      rw [ho] at hac
      have ha2 := HA.out.trans ha
      by_cases herr : y.err = 0
      · have HH : Hid (LHead w0 b c r pb po t G w m ((freeP l).run s m) (freeP (l.drop (i + 1))) ((i + 1 : Nat) : Int) (fun t1 G1 w1 => IRow w0 b c r pb t1 G1 w1 (some ⟨g, o, none⟩) l) w2) := by
          refine ⟨t2, G2, m2, s2, ha2, ?_, ?_, HRow.out.aft ha⟩
          · rw [HRun.out, HDr.out, freeP_cons, Pr.run_ask, ho]
            simp only
            rw [if_pos herr]
          · have h1 := hac.2.1
            simp only at h1
            have := HC.out
            push_cast
            omega
        rw [herr]
        clear hf hE ho ha hac ha2 herr hcell
        go_wp2_with fail
        go_roundw
        case rel => exact ⟨i + 1, by simp, by omega, HH⟩
        case measure => simp [intOf]; omega
      · have HX : Hid (Ev w0 b c r pb po t G w RInt ((freeP l).run s m) (.returned (.int .i64 y.err)) w2) := Ev.ret (a := y.err) (by
          rw [HRun.out, HDr.out, freeP_cons, Pr.run_ask, ho]
          simp only
          rw [if_neg herr]
          simp only [Pr.run]) rfl ha2
        clear hf hE ho ha hac ha2
        go_wp2
        go_ret
        exact HX.out
    · obtain rfl : i = n := by omega
      have HX : Hid (Ev w0 b c r pb po t G w RInt ((freeP l).run s m) (.returned (.int .i64 0)) wr) := Ev.ret (a := 0) (by
        rw [HRun.out, show l.drop i = [] by rw [HE.out]; exact List.drop_length]
        simp only [freeP, Pr.run]) rfl HA.out
      clear hR ha hrun hct hrow
      go_wp2
      go_ret
      exact HX.out
def wordsP : List Int → Pr Int
  | [] => .ret 0
  | h :: l => .ask (.word h) fun a => if a.err = 0 then wordsP l else .ret a.err
theorem wordsP_cons (h : Int) (l : List Int) : wordsP (h :: l) = .ask (.word h) fun a => if a.err = 0 then wordsP l else .ret a.err := rfl
def lastP (h : Int) (l : List Int) : Pr Int := (freeP l).bind fun e => if e = 0 then .ask (.free h) fun a => .ret a.err else .ret e
def undoP (h : Int) (l : List Int) : Pr Int := (wordsP l).bind fun e => if e = 0 then lastP h l else .ret e
def undoL (h : Int) (l k : List Int) : Pr Int := (wordsP k).bind fun e => if e = 0 then lastP h l else .ret e
theorem free_count : ∀ (l : List Int) (s : Pt) (m : M), m.count ≤ ((freeP l).run s m).2.2.count ∧ ((freeP l).run s m).2.2.count ≤ m.count + l.length
  | [], s, m => by simp [freeP, Pr.run]
  | h :: l, s, m => by
    rw [freeP_cons, Pr.run_ask]
    have h1 := ask_count s (.free h) m
    rcases ha : s.ask (.free h) m with ⟨_ | a, s', m'⟩
    all_goals rw [ha] at h1
    · simp only at h1 ⊢
      simp only [List.length_cons]
      omega
    · simp only at h1 ⊢
      simp only [List.length_cons]
      split
      · have := free_count l s' m'
        omega
      · simp only [Pr.run]
        omega
theorem undoL_cons (h : Int) (l : List Int) (x : Int) (k : List Int) : undoL h l (x :: k) = .ask (.word x) fun a => if a.err = 0 then undoL h l k else .ret a.err := by
  show Pr.ask (.word x) _ = _
  congr 1
  funext a
  by_cases e : a.err = 0
  · rw [if_pos e]
    show (if a.err = 0 then wordsP k else Pr.ret a.err).bind _ = _
    rw [if_pos e]; rfl
  · rw [if_neg e]
    show (if a.err = 0 then wordsP k else Pr.ret a.err).bind _ = _
    rw [if_neg e]
    show (if a.err = 0 then lastP h l else Pr.ret a.err) = _
    rw [if_neg e]
theorem undoL_nil (h : Int) (l : List Int) : undoL h l [] = lastP h l := rfl
set_option maxHeartbeats 1000000 in
end
end Go.Proofs.YtibimnibmengpaaDoor
/- What lay comes to: cells of words, and of a block that names them; all of them, or none. Conditions: at most 500000 asks; at most 100000 words; the library's table stands. -/
namespace Go.Proofs.YtibimnibmengpaaDoor
open Go.RowKit Go.Op
set_option maxRecDepth 100000

def layW (mk : List Int → Dat) : List Int → List Int → Pr (Int × Int)
  | done, [] => .ask (.alloc (.blk (mk done) .nil)) fun a => if a.err = 0 then .ret (a.n, 0) else (freeP done).bind fun _ => .ret (a.n, a.err)
  | done, w :: ws => .ask (.alloc (.word w)) fun a => if a.err = 0 then layW mk (done ++ [a.n]) ws else (freeP done).bind fun _ => .ret (0, a.err)
theorem layW_nil (mk : List Int → Dat) (done : List Int) : layW mk done [] = .ask (.alloc (.blk (mk done) .nil)) fun a => if a.err = 0 then .ret (a.n, 0) else (freeP done).bind fun _ => .ret (a.n, a.err) := rfl
theorem layW_cons (mk : List Int → Dat) (done : List Int) (w : Int) (ws : List Int) : layW mk done (w :: ws) = .ask (.alloc (.word w)) fun a => if a.err = 0 then layW mk (done ++ [a.n]) ws else (freeP done).bind fun _ => .ret (0, a.err) := rfl
/-- What the closure that makes the block of its cells comes to. -/
def Mk (w0 : World) (b c r pb po : Nat) (t : Value) (G : List (Nat × List Value)) (w : World) (z : Nat) (brow : List Value) (mk : List Int → Dat) (fk : FuncId) (N : Nat) : Prop :=
  ∀ (t1 : Value) (G1 : List (Nat × List Value)) (w1 : World) (m1 : M) (s1 : Pt) (a : Option Addr) (cap : Nat) (done : List Int), Aft w0 b c r pb po t G w t1 G1 w1 m1 s1 → ORow w0 b c r pb t1 G1 w1 (.slice a done.length cap) done → (∀ g o, a = some ⟨g, o, none⟩ → w.heap.size ≤ g) → done.length = N → done.length ≤ 100000 →
    SVar w1 z brow → z < w.heap.size → (∀ x, x ∈ G → x ∈ G1) →
    Calls Tryd.prog fk (#[.slice a done.length cap] ++ #[.pointer (some ⟨z, 0, none⟩)]) w1 fun e w' => ∃ pl G2, e = .returned (.iface (mk done).ty ((mk done).v pl)) ∧ (mk done).In G2 pl ∧ Aft w0 b c r pb po t G w t1 G2 w' m1 s1 ∧ IRow w0 b c r pb t1 G2 w' a done
section
variable {w0 : World} {b c r pb po : Nat} {t t1 : Value} {G G1 : List (Nat × List Value)} {w w1 w2 : World} {m m1 : M} {s s1 : Pt}
/-- Within lay's loop. -/
structure LayX (w0 : World) (b c r pb : Nat) (w : World) (a : Option Addr) (l : List Int) (z : Nat) (brow : List Value) (v : Value) (done : List Int) (t1 : Value) (G1 : List (Nat × List Value)) (w1 : World) : Prop where
  row : IRow w0 b c r pb t1 G1 w1 a l
  own : ORow w0 b c r pb t1 G1 w1 v done
  new : ∀ y, v.ownBlock = some y → w.heap.size ≤ y
  loc : Loc w0 b c r pb t1 G1 w1 z
  var : SVar w1 z brow
theorem LayX.aft {a : Option Addr} {l : List Int} {z : Nat} {brow : List Value} {v : Value} {done : List Int} (h : LayX w0 b c r pb w a l z brow v done t G w1) (ha : Aft w0 b c r pb po t G w1 t1 G1 w2 m1 s1) : LayX w0 b c r pb w a l z brow v done t1 G1 w2 :=
  ⟨h.row.aft ha, h.own.aft ha, h.new, (h.loc.aft ha).1, h.var.same ha.but.size (h.loc.aft ha).2⟩
theorem LayX.later {a : Option Addr} {l : List Int} {z : Nat} {brow : List Value} {v : Value} {done : List Int} (h : LayX w0 b c r pb w a l z brow v done t G w1) (hb : Below w1.heap.size w1 w2) : LayX w0 b c r pb w a l z brow v done t G w2 :=
  ⟨h.row.later hb, h.own.later hb, h.new, h.loc.same hb.size, h.var.later hb⟩
set_option maxHeartbeats 2000000 in
theorem lay_E (h : SysE w0 b c r pb po t G w m s) (hT : TabAt w0) (hc : m.count ≤ 500000) (a : Option Addr) (cap : Nat) (l : List Int) (hl : l.length ≤ 100000) (hr : IRow w0 b c r pb t G w a l) (z : Nat) (brow : List Value) (hz : Loc w0 b c r pb t G w z) (hv : SVar w z brow)
    (mk : List Int → Dat) (fk : FuncId) (he : ∀ zs w, (callFunc fk zs).run Tryd.prog w = .ok (.enter fk zs) w) (hM : Mk w0 b c r pb po t G w z brow mk fk l.length) :
    Calls Tryd.prog 60 #[.pointer (some ⟨pb, po, none⟩), .slice a l.length cap, .func (.func fk) #[] #[.pointer (some ⟨z, 0, none⟩)]] w fun e w' => Ev w0 b c r pb po t G w RInt2 ((layW mk [] l).run s m) e w' := by
  have HH : Hid (LHead w0 b c r pb po t G w m ((layW mk [] l).run s m) (layW mk [] (l.drop 0)) ((0 : Nat) : Int) (LayX w0 b c r pb w a l z brow (.slice none 0 0) []) w) := ⟨t, G, m, s, Aft.refl h, rfl, by omega, hr, ORow.nil w, fun y e => (by cases e), hz, hv⟩
  have hl2 : (l.length : Int) ≤ 100000 := by omega
  have HZ := Lib.hid hz.lt
  have HG : Hid (l ≠ [] → ∀ g o, a = some ⟨g, o, none⟩ → g < w.heap.size) := fun h0 g o e => by
    rcases hr with e2 | ⟨g', o', e2, h3⟩
    · exact absurd e2 h0
    · rw [e] at e2
      cases e2
      rcases h3 with ⟨h4, -⟩ | ⟨x, h4, -⟩
      · exact h4.lt
      · obtain ⟨m0, s0, h1, -⟩ := h
        exact (h1.rows g x h4).1.lt
  have HN : Hid (∃ n, n = l.length) := ⟨_, rfl⟩
  obtain ⟨n, hn⟩ := HN.out
  have HE := Lib.hid hn
  rw [← hn] at hl2 hl hM ⊢
  clear h hr HN hn hz hv
  go_enter Tryd.func60, Tryd.ntmps60
  go_wp2_with fail
  go_loopw [8, 17] (fun cv iv wr => ∃ (i : Nat) (done : List Int), iv = .int .i64 (i : Int) ∧ i ≤ n ∧ done.length = i ∧ Hid (LHead w0 b c r pb po t G w m ((layW mk [] l).run s m) (layW mk done (l.drop i)) (i : Int) (LayX w0 b c r pb w a l z brow cv done) wr)) (fun _ iv _ => n - (intOf iv).toNat)
  case atStart => exact ⟨0, [], rfl, Nat.zero_le _, rfl, HH⟩
  case round =>
    obtain ⟨i, done, rfl, hi, hdl, hR⟩ := hrel
    clear HH
    obtain ⟨t1, G1, m1, s1, ha, hrun, hct, hX⟩ := hR.out
    have HA := Lib.hid ha
    have HRun := Lib.hid hrun
    have HC := Lib.hid hct
    have HX := Lib.hid hX
    have HD := Lib.hid hdl
    have hc1 : m1.count ≤ 600000 := by omega
    obtain ⟨va, vcap, hve, hvc, hvi, hv0⟩ := hX.own.val
    by_cases hlt : i < n
    · have i1 : (i : Int) < (n : Int) := by omega
      obtain ⟨x, hx⟩ : ∃ x, l[i]? = some x := ⟨_, List.getElem?_eq_getElem (by rw [← HE.out]; exact hlt)⟩
      have hdrop : l.drop i = x :: l.drop (i + 1) := by
        rw [List.drop_eq_getElem_cons (by rw [← HE.out]; exact hlt)]
        rw [List.getElem?_eq_getElem (by rw [← HE.out]; exact hlt)] at hx
        cases hx; rfl
      obtain ⟨g, o, eg, hcell⟩ := hX.row.cell ha.sys hx
      have hf := eallocword ha.sys hT (by omega) x
      have HDr := Lib.hid hdrop
      have HL0 : Hid (l ≠ []) := fun e => by rw [e] at hx; simp at hx
      clear hR ha hrun hct hdrop hx hX hvi hv0 hdl
      subst eg
      go_wp2_with fail
      refine hf.mono ?_
      rintro e w2 hE
      have hac := ask_count s1 (.alloc (.word x)) m1
      rcases hE.cases with ⟨t2, G2, s2, m2, ho, rfl, ha⟩ | ⟨t2, G2, s2, m2, y, v, ho, rfl, rfl, ha⟩
      · have HY : Hid (Ev w0 b c r pb po t G w RInt2 ((layW mk [] l).run s m) (Halt pb po) w2) := Ev.die (by rw [HRun.out, HDr.out, layW_cons, Pr.run_ask, ho]) (HA.out.trans ha)
        clear hf hE ho ha hac
        unfold Halt
        go_wp2
        exact ⟨rfl, HY.out⟩
      rw [ho] at hac
      have ha2 := HA.out.trans ha
      have hX2 := HX.out.aft ha
      by_cases herr : y.err = 0
      · have hrun2 : (layW mk [] l).run s m = (layW mk (done ++ [y.n]) (l.drop (i + 1))).run s2 m2 := by
          rw [HRun.out, HDr.out, layW_cons, Pr.run_ask, ho]
          simp only
          rw [if_pos herr]
        have hb3 := (Below.refl w2.heap.size w2).alloc (Nat.le_refl _) (.cells #[.int .i64 y.n] 3)
        have hX3 := hX2.later hb3
        have ha3 := ha2.later hb3
        have hAp : Hid (∀ ty, ∃ v' w3, (Builtin.append_ #[27, 27] ty #[u8, .slice (some ⟨w2.heap.size, 0, none⟩) 1 1]).run Tryd.prog (w2.alloc (.cells #[.int .i64 y.n] 3)) = .ok v' w3 ∧ Hid (LHead w0 b c r pb po t G w m ((layW mk [] l).run s m) (layW mk (done ++ [y.n]) (l.drop (i + 1))) ((i + 1 : Nat) : Int) (LayX w0 b c r pb w (some ⟨g, o, none⟩) l z brow v' (done ++ [y.n])) w3)) := by
          intro ty
          obtain ⟨v', w3, h1, h2, h3, h4, h5, h6⟩ := hX3.own.app ha3 hX3.new ⟨w2.heap.size, 0, none⟩ 1 [y.n] (fun j u hj => by
            rw [add_off, World.cell?_alloc_new, Nat.zero_add]
            simpa [ints] using hj) (by have := HD.out; simp only [List.length_cons, List.length_nil]; omega) ty
          have hz2 : w3.heap[z]? = (w2.alloc (.cells #[.int .i64 y.n] 3)).heap[z]? := h6 z hX3.loc.lt (fun e => by have := hX3.new z e; have := HZ.out; omega)
          refine ⟨v', w3, h1, t2, G2, m2, s2, h2, hrun2, ?_, ?_, h3, h4, hX3.loc.same h5, hX3.var.same h5 hz2⟩
          · have h7 := hac.2.1
            simp only at h7
            have := HC.out
            push_cast
            omega
          · refine hX3.row.imp id fun ⟨g', o', e, h8⟩ => ⟨g', o', e, h8.imp (fun ⟨h9, h10⟩ => ⟨h9.same h5, ?_⟩) id⟩
            by_cases hne : u8.ownBlock = some g'
            · exact absurd rfl (fun _ : g' = g' => by
                have k1 := hX3.new g' hne
                have k2 := HG.out HL0.out g' o' e
                omega)
            · exact rangeAt_same h10 (h6 g' h9.lt hne)
        rw [herr]
        clear hf hE ho ha hac ha2 hX2 herr hcell hb3 hX3 ha3 hrun2 hve hvc
        go_wp2_with (at_builtin; refine append_run2 rfl (.tmp 33) (.tmp 35) 27 rfl rfl rfl hAp.out ?_; intro v' w3 HH; clear hAp)
        go_roundw
        case rel => exact ⟨i + 1, done ++ [y.n], by simp, by omega, by have := HD.out; simp [this], HH⟩
        case measure => simp [intOf]; omega
      · have hvi2 := hX2.own.val
        obtain ⟨va2, vcap2, hve2, hvc2, hvi2, -⟩ := hvi2
        have hfr := free_E ha.sys (by simp only at hac; omega) va2 vcap2 done (by have := HD.out; omega) hvi2
        have hrun2 : (layW mk [] l).run s m = ((freeP done).bind fun _ => .ret (0, y.err)).run s2 m2 := by
          rw [HRun.out, HDr.out, layW_cons, Pr.run_ask, ho]
          simp only
          rw [if_neg herr]
        have HR2 := Lib.hid hrun2
        have HA2 := Lib.hid ha2
        rw [hve2]
        clear hf hE ho ha hac ha2 hX2 hcell hrun2 hve hvc hvi2 hvc2
        go_wp2_with fail
        refine hfr.mono ?_
        rintro e w3 hE
        rcases hE.cases with ⟨t3, G3, s3, m3, ho, rfl, ha⟩ | ⟨t3, G3, s3, m3, z3, v, ho, rfl, rfl, ha⟩
        · have HY : Hid (Ev w0 b c r pb po t G w RInt2 ((layW mk [] l).run s m) (Halt pb po) w3) := Ev.die (by rw [HR2.out]; exact Pr.bind_none ho) (HA2.out.trans ha)
          clear hfr hE ho ha
          unfold Halt
          go_wp2
          exact ⟨rfl, HY.out⟩
        · have HY : Hid (Ev w0 b c r pb po t G w RInt2 ((layW mk [] l).run s m) (.returned (.tuple #[.int .i64 0, .int .i64 y.err])) w3) := Ev.ret (a := (0, y.err)) (by rw [HR2.out, Pr.bind_some ho]; simp only [Pr.run]) rfl (HA2.out.trans ha)
          clear hfr hE ho ha
          go_wp2
          go_ret2
          exact HY.out
    · obtain rfl : i = n := by omega
      have hrun2 : (layW mk [] l).run s m = (layW mk done []).run s1 m1 := by
        rw [HRun.out, show l.drop i = [] by rw [HE.out]; exact List.drop_length]
      subst hve
      have hmk := hM t1 G1 wr m1 s1 va vcap done ha hX.own (fun g o e => hX.new g (by rw [e]; rfl)) hdl (by omega) hX.var HZ.out ha.gro.1
      have HR2 := Lib.hid hrun2
      clear hR ha hrun hct hX hrun2 hvi hdl
      go_wp2_with fail
      refine hmk.mono ?_
      rintro e w2 ⟨pl, G2, rfl, hin, ha, hrow⟩
      have hf := eallocblk ha.sys hT (by omega) (mk done) pl hin
      have HA := Lib.hid ha
      have HRow := Lib.hid hrow
      clear hmk ha hrow hin
      go_wp2_with fail
      refine hf.mono ?_
      rintro e w3 hE
      have hac := ask_count s1 (.alloc (.blk (mk done) .nil)) m1
      rcases hE.cases with ⟨t3, G3, s3, m3, ho, rfl, ha⟩ | ⟨t3, G3, s3, m3, y, v, ho, rfl, rfl, ha⟩
      · have HY : Hid (Ev w0 b c r pb po t G w RInt2 ((layW mk [] l).run s m) (Halt pb po) w3) := Ev.die (by rw [HR2.out, layW_nil, Pr.run_ask, ho]) (HA.out.trans ha)
        clear hf hE ho ha hac
        unfold Halt
        go_wp2
        exact ⟨rfl, HY.out⟩
      rw [ho] at hac
      have ha2 := HA.out.trans ha
      by_cases herr : y.err = 0
      · have HY : Hid (Ev w0 b c r pb po t G w RInt2 ((layW mk [] l).run s m) (.returned (.tuple #[.int .i64 y.n, .int .i64 0])) w3) := Ev.ret (a := (y.n, 0)) (by rw [HR2.out, layW_nil, Pr.run_ask, ho]; simp only; rw [if_pos herr]; simp only [Pr.run]) rfl ha2
        rw [herr]
        clear hf hE ho ha hac ha2 herr
        go_wp2
        go_ret2
        exact HY.out
      · have hfr := free_E ha.sys (by simp only at hac; omega) va vcap done (by have := HD.out; omega) (HRow.out.aft ha)
        have hrun3 : (layW mk [] l).run s m = ((freeP done).bind fun _ => .ret (y.n, y.err)).run s3 m3 := by
          rw [HR2.out, layW_nil, Pr.run_ask, ho]
          simp only
          rw [if_neg herr]
        have HR3 := Lib.hid hrun3
        have HA2 := Lib.hid ha2
        clear hf hE ho ha hac ha2 hrun3
        go_wp2_with fail
        refine hfr.mono ?_
        rintro e w4 hE
        rcases hE.cases with ⟨t4, G4, s4, m4, ho, rfl, ha⟩ | ⟨t4, G4, s4, m4, z4, v, ho, rfl, rfl, ha⟩
        · have HY : Hid (Ev w0 b c r pb po t G w RInt2 ((layW mk [] l).run s m) (Halt pb po) w4) := Ev.die (by rw [HR3.out]; exact Pr.bind_none ho) (HA2.out.trans ha)
          clear hfr hE ho ha
          unfold Halt
          go_wp2
          exact ⟨rfl, HY.out⟩
        · have HY : Hid (Ev w0 b c r pb po t G w RInt2 ((layW mk [] l).run s m) (.returned (.tuple #[.int .i64 y.n, .int .i64 y.err])) w4) := Ev.ret (a := (y.n, y.err)) (by rw [HR3.out, Pr.bind_some ho]; simp only [Pr.run]) rfl (HA2.out.trans ha)
          clear hfr hE ho ha
          go_wp2
          go_ret2
          exact HY.out
end
end Go.Proofs.YtibimnibmengpaaDoor
/- What the closures of Lay and Make, Lay, Make come to. Conditions: at most 500000 asks; at most 90000 links; the library's table stands. -/
namespace Go.Proofs.YtibimnibmengpaaDoor
open Go.RowKit Go.Op
set_option maxRecDepth 100000

def ageOf (r : Rv) (done : List Int) : Dat := .age r (done.getD 0 0)
def nodeOf (low : ByteArray) (done : List Int) : Dat := .node low (done.getD 0 0) (done.drop 1)
theorem exists_and_exists {α β : Type} {P : α → Prop} {Q : α → β → Prop} (h : ∃ a b, P a ∧ Q a b) : ∃ a, P a ∧ ∃ b, Q a b := by
  obtain ⟨a, b, h1, h2⟩ := h
  exact ⟨a, h1, b, h2⟩
section
variable {w0 : World} {b c r pb po : Nat} {t t1 : Value} {G G1 : List (Nat × List Value)} {w w1 w2 : World} {m m1 : M} {s s1 : Pt}
theorem getD_cons {l : List Int} {x : Int} (h : l[0]? = some x) : l.getD 0 0 = x := by simp [h]
theorem lay1_E (z : Nat) (rv : Rv) (p : Pl) (hin : rv.In G p) (N : Nat) (hN : 1 ≤ N) : Mk w0 b c r pb po t G w z (rv.row p) (ageOf rv) 61 N := by
  intro t1 G1 w1 m1 s1 a cap done ha ho hnew hdl hd100 hv hzl hgr
  obtain ⟨x, hx⟩ : ∃ x, done[0]? = some x := ⟨_, List.getElem?_eq_getElem (by omega)⟩
  obtain ⟨a2, cap2, hve, hvc, hvi, hv0⟩ := ho.val
  cases hve
  obtain ⟨g, o, eg, hcell⟩ := hvi.cell ha.sys hx
  subst eg
  rw [Nat.add_zero] at hcell
  have hdl0 : 0 < done.length := by omega
  have hdl1 : (0 : Int) < (done.length : Int) := by omega
  have HE : Hid (∀ W, Below w1.heap.size w1 W → ∃ pl G2, Ending.returned (.iface 57 (.agg #[.int .i64 rv.ver, .int .i64 rv.rate, .string rv.lo, .string rv.hi, .bool rv.all, .bool rv.dead, .slice p.s0.a p.s0.n p.s0.cap, .slice p.s1.a p.s1.n p.s1.cap, .slice p.s2.a p.s2.n p.s2.cap, .slice p.s3.a p.s3.n p.s3.cap, .int .i64 x])) = .returned (.iface (ageOf rv done).ty ((ageOf rv done).v pl)) ∧ (ageOf rv done).In G2 pl ∧ Aft w0 b c r pb po t G w t1 G2 W m1 s1 ∧ IRow w0 b c r pb t1 G2 W (some ⟨g, o, none⟩) done) := fun W hW =>
    ⟨p, G1, by simp only [ageOf, getD_cons hx]; rfl, Dat.In.more (d := .age rv 0) hin hgr, ha.later hW, hvi.later hW⟩
  have c0 := hv.cell (i := 0) rfl
  have c1 := hv.cell (i := 1) rfl
  have c2 := hv.cell (i := 2) rfl
  have c3 := hv.cell (i := 3) rfl
  have c4 := hv.cell (i := 4) rfl
  have c5 := hv.cell (i := 5) rfl
  have c6 := hv.cell (i := 6) rfl
  have c7 := hv.cell (i := 7) rfl
  have c8 := hv.cell (i := 8) rfl
  have c9 := hv.cell (i := 9) rfl
  have mk : ∀ (x : Value) (w : World), (Instr.makeInterface 57 x).run Tryd.prog w = .ok (.iface 57 x) w := fun x w => run_makeInterface w 57 x (by kernel_rfl)
  generalize done.length = n at *
  subst hdl
  clear ha ho hv hvi hx hnew hv0
  go_enter Tryd.func61, Tryd.ntmps61
  go_wp2_with fail
  go_quiet (fail)
  go_wp2
  go_ret
  exact HE.out _ (below_drewN _ _)
theorem make1_E (z : Nat) (low : ByteArray) (N : Nat) (hN : 1 ≤ N) : Mk w0 b c r pb po t G w z [.string low] (nodeOf low) 62 N := by
  intro t1 G1 w1 m1 s1 a cap done ha ho hnew hdl hd100 hv hzl hgr
  obtain ⟨x, hx⟩ : ∃ x, done[0]? = some x := ⟨_, List.getElem?_eq_getElem (by omega)⟩
  obtain ⟨a2, cap2, hve, hvc, hvi, hv0⟩ := ho.val
  cases hve
  obtain ⟨g, o, eg, hcell⟩ := hvi.cell ha.sys hx
  subst eg
  rw [Nat.add_zero] at hcell
  obtain rfl := hv0 g o rfl
  have hdl0 : 0 < done.length := by omega
  have hdl1 : (0 : Int) < (done.length : Int) := by omega
  have hdl2 : (1 : Int) ≤ (done.length : Int) := by omega
  have hvc1 : (done.length : Int) ≤ (cap : Int) := by omega
  have hvc2 : (1 : Int) ≤ (cap : Int) := by omega
  have hlg : Loc w0 b c r pb t1 G1 w1 g := ho.loc g rfl
  have hrw : Rw w1 g (ints done) := ⟨hlg.lt, fun i u hi => by
    have := World.ownsRow.cells ho.own (g := g) rfl i u hi
    rwa [add_off, Nat.zero_add] at this⟩
  have HE : Hid (∀ W a' c', c' = cap - 1 → (¬ cap = 1 → a' = some ⟨g, 1, none⟩) → Below w1.heap.size w1 W → ∃ pl G2, Ending.returned (.iface 38 (.agg #[.string low, .int .i64 x, .slice a' (done.length - 1) c'])) = .returned (.iface (nodeOf low done).ty ((nodeOf low done).v pl)) ∧ (nodeOf low done).In G2 pl ∧ Aft w0 b c r pb po t G w t1 G2 W m1 s1 ∧ IRow w0 b c r pb t1 G2 W (some ⟨g, 0, none⟩) done) := by
    intro W a' c' hc' ha' hW
    subst hc'
    refine ⟨⟨⟨a', done.length - 1, cap - 1⟩, .nil, .nil, .nil⟩, (g, ints done) :: G1, by simp only [nodeOf, getD_cons hx]; rfl, ?_, (ha.freeze hlg (hnew g 0 rfl) hrw).later hW, ?_⟩
    · refine ⟨by simp [ints], by simp only; omega, by simp [ints]; omega, ?_⟩
      by_cases h1 : done.length = 1
      · left
        have : done.drop 1 = [] := List.drop_eq_nil_iff.2 (by omega)
        rw [this]; rfl
      · right
        refine ⟨g, 1, ints done, ha' (by omega), List.mem_cons_self, fun i y hy => ?_⟩
        have e1 : (ints (done.drop 1))[i]? = (ints done)[1 + i]? := by
          show ((done.drop 1).map (Value.int .i64))[i]? = (done.map (Value.int .i64))[1 + i]?
          rw [List.getElem?_map, List.getElem?_map, List.getElem?_drop]
        rw [← e1]; exact hy
    · exact .inr ⟨g, 0, rfl, .inr ⟨ints done, List.mem_cons_self, fun i y hy => by rw [Nat.zero_add]; exact hy⟩⟩
  have c0 := hv.cell (i := 0) rfl
  have mk : ∀ (x : Value) (w : World), (Instr.makeInterface 38 x).run Tryd.prog w = .ok (.iface 38 x) w := fun x w => run_makeInterface w 38 x (by kernel_rfl)
  generalize done.length = n at *
  subst hdl
  clear ha ho hv hvi hx hnew hv0 hlg hrw
  go_enter Tryd.func62, Tryd.ntmps62
  go_wp2_with fail
  go_quiet (fail)
  go_wp2
  all_goals
    go_ret
    refine exists_and_exists ?_
    first | refine HE.out _ (some ⟨g, 1, none⟩) (cap - 1) ?_ ?_ (below_drewN _ _) | refine HE.out _ (some ⟨g, 0, none⟩) 0 ?_ ?_ (below_drewN _ _)
    · first | rfl | omega
    · first | exact fun _ => rfl | exact fun h => absurd (by assumption) h
end
end Go.Proofs.YtibimnibmengpaaDoor
/- What Lay, Make, Take come to. Conditions: at most 400000 asks; at most 90000 links; the library's table stands. -/
namespace Go.Proofs.YtibimnibmengpaaDoor
open Go.RowKit Go.Op
set_option maxRecDepth 100000

def layP (r : Rv) (before : Int) : Pr (Int × Int) := layW (ageOf r) [] [before]
def makeP (low : ByteArray) (head : Int) (links : List Int) : Pr (Int × Int) := layW (nodeOf low) [] (head :: links)
theorem he59 (zs : Array Value) (w : World) : (callFunc 61 zs).run Tryd.prog w = .ok (.enter 61 zs) w := by kernel_rfl
theorem he58 (zs : Array Value) (w : World) : (callFunc 62 zs).run Tryd.prog w = .ok (.enter 62 zs) w := by kernel_rfl
theorem int_new (w : World) (x : Int) (ty : TypeId) : (w.alloc (.cells #[.int .i64 x] ty)).rangeAt w.heap.size 0 (ints [x]) := fun j u hj => by
  rw [Nat.zero_add, World.cell?_alloc_new]
  simpa [ints] using hj
section
variable {w0 : World} {b c r pb po : Nat} {t t1 : Value} {G G1 : List (Nat × List Value)} {w w1 w2 : World} {m m1 : M} {s s1 : Pt}
/-- A call whose answer is handed on. -/
theorem Ev.back {α : Type} {R : List (Nat × List Value) → α → Value → Prop} {o : Option α × Pt × M} {e : Ending} (h : Ev w0 b c r pb po t G w1 R o e w2) (hb : Below w.heap.size w w1) : Ev w0 b c r pb po t G w R o e w2 := by
  obtain ⟨t', G', h1, h2⟩ := h
  exact ⟨t', G', h1, h2.back hb⟩
theorem Ev.later {α : Type} {R : List (Nat × List Value) → α → Value → Prop} {o : Option α × Pt × M} {e : Ending} (h : Ev w0 b c r pb po t G w R o e w1) (hb : Below w1.heap.size w1 w2) : Ev w0 b c r pb po t G w R o e w2 := by
  obtain ⟨t', G', h1, h2⟩ := h
  exact ⟨t', G', h1, h2.later hb⟩
set_option maxHeartbeats 1000000 in
theorem Lay_E (h : SysE w0 b c r pb po t G w m s) (hT : TabAt w0) (hc : m.count ≤ 400000) (rv : Rv) (p : Pl) (hin : rv.In G p) (k : Int) :
    Calls Tryd.prog 42 #[.pointer (some ⟨pb, po, none⟩), rv.v p, .int .i64 k] w fun e w' => Ev w0 b c r pb po t G w RInt2 ((layP rv k).run s m) e w' := by
  obtain ⟨wa, hwa⟩ : ∃ W, W = (w.alloc (.cells (rv.row p).toArray 52)).alloc (.cells #[.int .i64 k] 3) := ⟨_, rfl⟩
  have hsz : (w.alloc (.cells (rv.row p).toArray 52)).heap.size = w.heap.size + 1 := by simp
  have b1 := (Below.refl w.heap.size w).alloc (Nat.le_refl _) (.cells (rv.row p).toArray 52)
  have b2 := (Below.refl (w.alloc (.cells (rv.row p).toArray 52)).heap.size (w.alloc (.cells (rv.row p).toArray 52))).alloc (Nat.le_refl _) (.cells #[.int .i64 k] 3)
  have ba : Below w.heap.size w wa := by rw [hwa]; exact b1.alloc (by simp) _
  have va : SVar wa w.heap.size (rv.row p) := by rw [hwa]; exact (snew w (rv.row p) 52).later b2
  have la : Loc w0 b c r pb t G wa w.heap.size := by rw [hwa]; exact (h.fresh (.cells (rv.row p).toArray 52)).same b2.size
  have lb : Loc w0 b c r pb t G wa (w.heap.size + 1) := by
    have := (h.later b1).fresh (.cells #[.int .i64 k] 3)
    rw [hsz] at this
    rw [hwa]; exact this
  have rb : wa.rangeAt (w.heap.size + 1) 0 (ints [k]) := by
    have := int_new (w.alloc (.cells (rv.row p).toArray 52)) k 3
    rw [hsz] at this
    rw [hwa]; exact this
  have hl := lay_E (h.later ba) hT (by omega) (some ⟨w.heap.size + 1, 0, none⟩) 1 [k] (by simp) (.inr ⟨_, 0, rfl, .inl ⟨lb, rb⟩⟩) w.heap.size (rv.row p) la va (ageOf rv) 61 he59 (lay1_E _ rv p hin 1 (Nat.le_refl _))
  have HL : Hid (Calls Tryd.prog 60 #[.pointer (some ⟨pb, po, none⟩), .slice (some ⟨w.heap.size + 1, 0, none⟩) 1 1, .func (.func 61) #[] #[.pointer (some ⟨w.heap.size, 0, none⟩)]] wa fun e w' => Ev w0 b c r pb po t G w RInt2 ((layP rv k).run s m) e w') := hl.mono fun e w' hE => hE.back ba
  have HW : Hid ((w.alloc (.cells #[.int .i64 rv.ver, .int .i64 rv.rate, .string rv.lo, .string rv.hi, .bool rv.all, .bool rv.dead, .slice p.s0.a p.s0.n p.s0.cap, .slice p.s1.a p.s1.n p.s1.cap, .slice p.s2.a p.s2.n p.s2.cap, .slice p.s3.a p.s3.n p.s3.cap] 52)).alloc (.cells #[.int .i64 k] 3) = wa) := hwa.symm
  clear h hwa hsz b1 b2 ba va la lb rb hl
  have hm := hmf
  unfold Rv.v
  go_enter Tryd.func42, Tryd.ntmps42
  go_wp2_with (first | rw [HW.out] | fail)
  refine HL.out.mono ?_
  rintro e w1 hE
  rcases hE.cases with ⟨t1, G1, s1, m1, ho, rfl, ha⟩ | ⟨t1, G1, s1, m1, y, v, ho, rfl, rfl, ha⟩
  · have HX := Lib.hid hE
    clear HL hE ho ha
    unfold Halt
    go_wp2
    exact ⟨rfl, HX.out⟩
  · have HX := Lib.hid hE
    clear HL hE ho ha
    go_wp2
    go_ret2
    exact HX.out
set_option maxHeartbeats 1000000 in
theorem Make_E (h : SysE w0 b c r pb po t G w m s) (hT : TabAt w0) (hc : m.count ≤ 400000) (low : ByteArray) (k : Int) (ad : Addr) (cap : Nat) (l : List Int) (hl : l.length ≤ 90000) (hr : ∀ j u, (ints l)[j]? = some u → w.cell? (ad.add j) = some u) (hlt : l ≠ [] → ad.block < w.heap.size) :
    Calls Tryd.prog 43 #[.pointer (some ⟨pb, po, none⟩), .string low, .int .i64 k, .slice (some ad) l.length cap] w fun e w' => Ev w0 b c r pb po t G w RInt2 ((makeP low k l).run s m) e w' := by
  obtain ⟨wa, hwa⟩ : ∃ W, W = (w.alloc (.cells #[.string low] 9)).alloc (.cells #[.int .i64 k] 3) := ⟨_, rfl⟩
  have hsz : (w.alloc (.cells #[.string low] 9)).heap.size = w.heap.size + 1 := by simp
  have b1 := (Below.refl w.heap.size w).alloc (Nat.le_refl _) (.cells #[.string low] 9)
  have b2 := (Below.refl (w.alloc (.cells #[.string low] 9)).heap.size (w.alloc (.cells #[.string low] 9))).alloc (Nat.le_refl _) (.cells #[.int .i64 k] 3)
  have ba : Below w.heap.size w wa := by rw [hwa]; exact b1.alloc (by simp) _
  have va : SVar wa w.heap.size [.string low] := by rw [hwa]; exact (snew w [.string low] 9).later b2
  have la : Loc w0 b c r pb t G wa w.heap.size := by rw [hwa]; exact (h.fresh (.cells #[.string low] 9)).same b2.size
  have ob : ORow w0 b c r pb t G wa (.slice (some ⟨w.heap.size + 1, 0, none⟩) 1 1) [k] := by
    have h1 := (h.later b1).fresh (.cells #[.int .i64 k] 3)
    rw [hsz] at h1
    have hB : w0.heap.size ≤ w.heap.size := by
      obtain ⟨m0, s0, q1, -⟩ := h
      exact q1.has.below.size
    have h2 := World.ownsRow_lit (e := 3) (size := 1) (base := w0.heap.size) (w.alloc (.cells #[.string low] 9)) #[.int .i64 k] 1 (by rw [hsz]; omega) (by unfold maxLen; omega) rfl
    rw [hsz] at h2
    refine ⟨by rw [hwa]; exact h2, fun g e => ?_⟩
    cases e
    rw [hwa]; exact h1
  have hA : Aft w0 b c r pb po t G w t G wa m s := (Aft.refl h).later ba
  have HAp : Hid (∀ ty, ∃ v' w3, (Builtin.append_ #[27, 27] ty #[.slice (some ⟨w.heap.size + 1, 0, none⟩) 1 1, .slice (some ad) l.length cap]).run Tryd.prog wa = .ok v' w3 ∧ ∃ a3 cap3, v' = .slice a3 (k :: l).length cap3 ∧ Hid (Calls Tryd.prog 60 #[.pointer (some ⟨pb, po, none⟩), .slice a3 (k :: l).length cap3, .func (.func 62) #[] #[.pointer (some ⟨w.heap.size, 0, none⟩)]] w3 fun e w' => Ev w0 b c r pb po t G w RInt2 ((makeP low k l).run s m) e w')) := by
    intro ty
    obtain ⟨v', w3, h1, h2, h3, h4, h5, h6⟩ := ob.app hA (fun z e => by cases e; exact Nat.le_succ _) ad cap l (fun j u hj => by
      have hlj : l ≠ [] := fun e => by rw [e] at hj; simp [ints] at hj
      rw [← hr j u hj]
      exact World.cell?_of_block (w := w) (a := ad.add j) (by
        have : (ad.add j).block = ad.block := by unfold Addr.add; split <;> rfl
        rw [this]
        exact ba.block ad.block (hlt hlj))) (by simp only [List.length_cons, List.length_nil]; omega) ty
    obtain ⟨a3, cap3, e3, -, i3, -⟩ := h3.val
    have hv3 : w3.heap[w.heap.size]? = wa.heap[w.heap.size]? := h6 _ la.lt (fun e => by
      have e2 : w.heap.size + 1 = w.heap.size := Option.some.inj e
      omega)
    refine ⟨v', w3, h1, a3, cap3, e3, ?_⟩
    refine (lay_E h2.sys hT (by omega) a3 cap3 (k :: l) (by simp; omega) i3 w.heap.size [.string low] (la.same h5) (va.same h5 hv3) (nodeOf low) 62 he58 (make1_E _ low _ (by simp))).mono fun e w' hE => ?_
    rcases hE.cases with ⟨t4, G4, s4, m4, ho, rfl, ha⟩ | ⟨t4, G4, s4, m4, y, v, ho, rfl, rfl, ha⟩
    · exact Ev.die ho (h2.trans ha)
    · exact Ev.ret ho rfl (h2.trans ha)
  have HW : Hid ((w.alloc (.cells #[.string low] 9)).alloc (.cells #[.int .i64 k] 3) = wa) := hwa.symm
  clear h hwa hsz b1 b2 ba va la ob hA hr
  have hm := hmf
  go_enter Tryd.func43, Tryd.ntmps43
  go_wp2_with (first | rw [HW.out] | (at_builtin; refine append_run2 rfl (.tmp 12) (.tmp 13) 27 rfl rfl rfl HAp.out ?_; rintro v' w3 ⟨a3, cap3, rfl, HL⟩; clear HAp) | fail)
  refine HL.out.mono ?_
  rintro e w1 hE
  rcases hE.cases with ⟨t1, G1, s1, m1, ho, rfl, ha⟩ | ⟨t1, G1, s1, m1, y, v, ho, rfl, rfl, ha⟩
  · have HX := Lib.hid hE
    clear HL hE ho ha
    unfold Halt
    go_wp2
    exact ⟨rfl, HX.out⟩
  · have HX := Lib.hid hE
    clear HL hE ho ha
    go_wp2
    go_ret2
    exact HX.out
end
end Go.Proofs.YtibimnibmengpaaDoor
/- What Take, slices.Clone, Load, Own, Lift, Undo come to. Conditions: at most 400000 asks; at most 90000 links. -/
namespace Go.Proofs.YtibimnibmengpaaDoor
open Go.RowKit Go.Op
set_option maxRecDepth 100000

theorem eq25_no (a : Addr) (n c : Nat) (w : World) : (binOp .eql 27 (.slice (some a) n c) (.slice none 0 0)).run Tryd.prog w = .ok (.bool false) w := by kernel_rfl
theorem eq25_nil (n c : Nat) (w : World) : (binOp .eql 27 (.slice none n c) (.slice none 0 0)).run Tryd.prog w = .ok (.bool true) w := by kernel_rfl
/-- What a slice of numbers holds. -/
def SlAt (w : World) (a : Option Addr) (l : List Int) : Prop := l = [] ∨ ∃ g o, a = some ⟨g, o, none⟩ ∧ g < w.heap.size ∧ w.rangeAt g o (ints l)
def SlNew (B : Nat) (w : World) (a : Option Addr) (l : List Int) : Prop := l = [] ∨ ∃ g, a = some ⟨g, 0, none⟩ ∧ B ≤ g ∧ Rw w g (ints l)
theorem clone_app (w : World) (q : Nat) (a : Addr) (cap : Nat) (l : List Int) (hl : l.length ≤ 1000000) (h : SlAt w (some a) l) :
    ∃ ad' cap' w', (∀ ty, (Builtin.append_ #[27, 27] ty #[.slice (some ⟨q, 0, none⟩) 0 0, .slice (some a) l.length cap]).run Tryd.prog w = .ok (.slice ad' l.length cap') w') ∧ l.length ≤ cap' ∧ Below w.heap.size w w' ∧ SlNew w.heap.size w' ad' l := by
  obtain ⟨i0, hi, hz0, hz1, hz2⟩ := info_parts info3
  by_cases h0 : l = []
  · subst h0
    exact ⟨_, _, _, fun ty => run_append_nothing w 27 27 ty 3 i0 Tryd.underlying27 hi (some ⟨q, 0, none⟩) 0 0 (Nat.le_refl _) _ (Src.ofSlice w Tryd.underlying27 a 0 cap [] (by simp) (fun j u hu => (by simp at hu)) (fun u hu => (by simp at hu))), Nat.le_refl _, Below.refl _ _, .inl rfl⟩
  · rcases h with e | ⟨g, o, e, hlt, hr⟩
    · exact absurd e h0
    · cases e
      have hp : 0 < l.length := List.length_pos_iff.2 h0
      have hrun := fun ty => run_append_grow (P := Tryd.prog) w 27 ty 3 i0 _ Tryd.underlying27 hi hz0 ⟨q, 0, none⟩ 0 0 [] (by simp) (fun j u hu => (by simp at hu)) ⟨g, o, none⟩ l.length cap (ints l) (by rw [ints_length, hz1]; omega) (fun j u hu => by rw [add_off]; exact hr j u hu) (by omega) (by omega) (growslice_fits (by omega) (by rw [hz2]; omega))
      have hge := grownCap_ge w (0 + l.length) 0 3
      simp only [Nat.zero_add] at hrun hge
      refine ⟨_, _, _, hrun, hge, (Below.refl w.heap.size w).drew.alloc (Nat.le_refl _) _, .inr ⟨w.heap.size, rfl, Nat.le_refl _, ⟨by simp, fun j u hj => ?_⟩⟩⟩
      have hlt := (List.getElem?_eq_some_iff.1 hj).1
      rw [show w.heap.size = w.drew.heap.size from rfl, World.cell?_alloc_new]
      rw [Array.getElem?_append_left (by simp; exact hlt)]
      rw [← hj]
      simp
def IsSl (B : Nat) (l : List Int) (e : Ending) (w' : World) : Prop := ∃ ad cap, e = .returned (.slice ad l.length cap) ∧ l.length ≤ cap ∧ SlNew B w' ad l
theorem clone_any (w : World) (ad : Option Addr) (cap : Nat) (l : List Int) (hl : l.length ≤ 1000000) (h : SlAt w ad l) :
    Calls Tryd.prog 51 #[.slice ad l.length cap] w fun e w' => IsSl w.heap.size l e w' ∧ Below w.heap.size w w' := by
  cases ad with
  | none =>
    have h0 : l = [] := by
      rcases h with e | ⟨g, o, e, _⟩
      · exact e
      · cases e
    subst h0
    clear h
    have h1 := eq25_nil
    go_enter Tryd.func51, Tryd.ntmps51
    go_wp2
    go_ret
    exact ⟨⟨none, 0, rfl, Nat.le_refl _, .inl rfl⟩, Below.refl _ _⟩
  | some a =>
    have hb := (Below.refl w.heap.size w).alloc (Nat.le_refl _) (.cells #[] 3)
    have HA := Lib.hid (clone_app (w.alloc (.cells #[] 3)) w.heap.size a cap l hl (h.imp id fun ⟨g, o, e, hlt, hr⟩ => ⟨g, o, e, Nat.lt_of_lt_of_le hlt hb.size, rangeAt_same hr (hb.block g hlt)⟩))
    have HB := Lib.hid hb
    have h1 := eq25_no a
    clear h hb hl
    obtain ⟨ad', cap', w2, hrun, h2, h3, h4⟩ := HA.out
    have HE : Hid (IsSl w.heap.size l (.returned (.slice ad' l.length cap')) w2 ∧ Below w.heap.size w w2) :=
      ⟨⟨ad', cap', rfl, h2, h4.imp id fun ⟨g, e, k, r⟩ => ⟨g, e, Nat.le_trans HB.out.size k, r⟩⟩, HB.out.trans (h3.mono HB.out.size)⟩
    clear h2 h3 h4 HA HB
    generalize l.length = n at *
    have HR := Lib.hid hrun
    clear hrun
    go_enter Tryd.func51, Tryd.ntmps51
    go_wp2_with (at_builtin; refine append_run rfl (.tmp 5) (.tmp 6) 27 rfl rfl rfl HR.out ?_)
    go_ret
    exact HE.out
section
variable {w0 : World} {b c r pb po : Nat} {t t1 : Value} {G G1 : List (Nat × List Value)} {w w1 w2 : World} {m m1 : M} {s s1 : Pt}
theorem Aft.grow (h : Aft w0 b c r pb po t G w t1 G1 w1 m1 s1) (hb : Below w1.heap.size w1 w2) {g : Nat} {l : List Value} (hg : w1.heap.size ≤ g) (hr : Rw w2 g l) : Aft w0 b c r pb po t G w t1 ((g, l) :: G1) w2 m1 s1 := by
  have h1 := h.later hb
  obtain ⟨m0, s0, q1, -⟩ := id h.sys
  have o := q1.has.at_.own
  have h2 := q1.pt.lt
  have h3 := o.lb
  have h4 := o.lc
  have h5 := o.lr
  have h6 := q1.has.below.size
  refine h1.freeze ⟨hr.lt, by omega, ⟨by omega, by omega, by omega, by omega⟩, fun e => by
    have := (World.ownsRow.lt q1.pt.own _ e).2
    omega, fun x hx e => by
    have := (q1.rows x.1 x.2 hx).1.lt
    omega⟩ (Nat.le_trans h.but.size hg) hr
/-- Behind Clone. -/
def Cloned (w0 : World) (b c r pb po : Nat) (t : Value) (G : List (Nat × List Value)) (w : World) (t1 : Value) (G1 : List (Nat × List Value)) (w1 : World) (m1 : M) (s1 : Pt) (l : List Int) (e : Ending) (w' : World) : Prop :=
  ∃ (sl : Sl) (G2 : List (Nat × List Value)), e = .returned (.slice sl.a sl.n sl.cap) ∧ sl.In G2 (ints l) ∧ Aft w0 b c r pb po t G w t1 G2 w' m1 s1 ∧ Grow w1 G1 G2
theorem slat_in {sl : Sl} {l : List Int} (hs : SysE w0 b c r pb po t G w m s) (h : sl.In G (ints l)) : SlAt w sl.a l := by
  rcases h.row with e | ⟨g, o, x, e, hm, hx⟩
  · left; simpa [ints] using e
  · obtain ⟨m0, s0, h1, -⟩ := hs
    have hrw := (h1.rows g x hm).1
    exact .inr ⟨g, o, e, hrw.lt, fun j u hj => hrw.at_ _ _ (hx j u hj)⟩
theorem eclone (h : Aft w0 b c r pb po t G w t1 G1 w1 m1 s1) (sl : Sl) (l : List Int) (hd : sl.In G1 (ints l)) :
    Calls Tryd.prog 51 #[.slice sl.a sl.n sl.cap] w1 fun e w' => Cloned w0 b c r pb po t G w t1 G1 w1 m1 s1 l e w' ∧ Below w1.heap.size w1 w' := by
  have hn := hd.n
  have hf := hd.few
  rw [ints_length] at hn hf
  rw [hn]
  refine (clone_any w1 sl.a sl.cap l hf (slat_in h.sys hd)).mono ?_
  rintro e w2 ⟨⟨ad, cap, rfl, h2, h3⟩, hb⟩
  refine ⟨?_, hb⟩
  rcases h3 with h3 | ⟨g, rfl, hg, hr⟩
  · exact ⟨⟨ad, l.length, cap⟩, G1, rfl, ⟨(ints_length l).symm, h2, hd.few, .inl (by rw [h3]; rfl)⟩, h.later hb, Grow.refl _ _⟩
  · refine ⟨⟨_, l.length, cap⟩, (g, ints l) :: G1, rfl, ⟨(ints_length l).symm, h2, hd.few, .inr ⟨g, 0, ints l, rfl, List.mem_cons_self, fun i x hx => by rw [Nat.zero_add]; exact hx⟩⟩, h.grow hb hg hr, ⟨fun x hx => List.mem_cons_of_mem _ hx, fun x hx => ?_⟩⟩
    rcases List.mem_cons.1 hx with e | e
    · cases e; exact .inr hg
    · exact .inl e
theorem Loc.grow {z : Nat} (h : Loc w0 b c r pb t G w z) (hs : w.heap.size ≤ w1.heap.size) (hg : Grow w G G1) : Loc w0 b c r pb t G1 w1 z :=
  ⟨Nat.lt_of_lt_of_le h.lt hs, h.ge, h.ne, h.nt, fun x hx e => (hg.2 x hx).elim (fun e2 => h.ng x e2 e) fun e2 => by have := h.lt; omega⟩
set_option maxHeartbeats 1000000 in
theorem Take_E (h : SysE w0 b c r pb po t G w m s) (hc : m.count ≤ 900000) (k : Int) :
    Calls Tryd.prog 85 #[.pointer (some ⟨pb, po, none⟩), .int .i64 k] w fun e w' => Ev w0 b c r pb po t G w RAge ((takeP k).run s m) e w' := by
  have hb0 := (Below.refl w.heap.size w).alloc (Nat.le_refl _) aobj
  have hl := heldA_E (h.later hb0) hc k
  have HL := Lib.hid (h.fresh aobj)
  have HV := Lib.hid (show SVar (w.alloc aobj) w.heap.size (ag0.row .nil) from snew w (ag0.row .nil) 57)
  have HB := Lib.hid hb0
  clear h hb0
  unfold aobj at hl
  go_enter Tryd.func85, Tryd.ntmps85
  go_wp2_with fail
  refine hl.mono ?_
  rintro e w1 hE
  rcases hE.cases with ⟨t1, G1, s1, m1, ho, rfl, ha⟩ | ⟨t1, G1, s1, m1, x, v, ho, rfl, ⟨p, hi, rfl⟩, ha⟩
  · have HE : Hid (Ev w0 b c r pb po t G w RAge ((takeP k).run s m) (Halt pb po) w1) := Ev.die ho (ha.back HB.out)
    clear hl hE ho ha
    unfold Halt
    go_wp2
    exact ⟨rfl, HE.out⟩
  · obtain ⟨v1, l1⟩ := ha.svar HL.out HV.out
    have HF : Hid (Ev w0 b c r pb po t G w RAge ((takeP k).run s m) (.returned (.tuple #[x.1.v p, .int .i64 x.2])) (sput w1 w.heap.size (x.1.row p)) ∧ (loadVar 57 ⟨w.heap.size, 0, none⟩).run Tryd.prog (sput w1 w.heap.size (x.1.row p)) = .ok (x.1.v p) (sput w1 w.heap.size (x.1.row p))) :=
      ⟨Ev.ret ho ⟨p, hi, rfl⟩ ((ha.back HB.out).aside (But.sput _ _ _) l1 (Nat.le_refl _)), (v1.put (row' := x.1.row p) rfl).loadVar sh42⟩
    have hst := v1.store (row' := x.1.row p) rfl sh42 (x.1.row_one p)
    generalize sput w1 w.heap.size (x.1.row p) = W at hst HF
    unfold Ag.v
    unfold Ag.v at HF
    simp only [Ag.row] at hst
    clear hl hE ho ha v1 l1 hi
    go_wp2_with (first | ((with_reducible refine store_run ?_ (.tmp 4) (.tmp 9) 57 ?_ ?_ ?_ hst ?_); exact rfl; exact rfl; exact rfl; exact rfl))
    exact bodyPost_ret (res_ct (.int .i64 x.2) Tryd.results85 rfl rfl HF.out.2) rfl HF.out.1
end
end Go.Proofs.YtibimnibmengpaaDoor
/- What Load, Own, Lift, Undo come to. Conditions: at most 400000 asks; at most 90000 links. -/
namespace Go.Proofs.YtibimnibmengpaaDoor
open Go.RowKit Go.Op
set_option maxRecDepth 100000

section
variable {w0 : World} {b c r pb po : Nat} {t t1 : Value} {G G1 : List (Nat × List Value)} {w w1 w2 : World} {m m1 : M} {s s1 : Pt}
set_option maxHeartbeats 1000000 in
theorem Load_E (h : SysE w0 b c r pb po t G w m s) (hc : m.count ≤ 900000) (k : Int) :
    Calls Tryd.prog 32 #[.pointer (some ⟨pb, po, none⟩), .int .i64 k] w fun e w' => Ev w0 b c r pb po t G w RNode ((loadP k).run s m) e w' := by
  have hb0 := (Below.refl w.heap.size w).alloc (Nat.le_refl _) nobj
  have hl := heldN_E (h.later hb0) hc k
  have HL := Lib.hid (h.fresh nobj)
  have HV := Lib.hid (show SVar (w.alloc nobj) w.heap.size (nd0.row .nil) from snew w (nd0.row .nil) 38)
  have HB := Lib.hid hb0
  clear h hb0
  unfold nobj at hl
  go_enter Tryd.func32, Tryd.ntmps32
  go_wp2_with fail
  refine hl.mono ?_
  rintro e w1 hE
  rcases hE.cases with ⟨t1, G1, s1, m1, ho, rfl, ha⟩ | ⟨t1, G1, s1, m1, x, v, ho, rfl, ⟨p, hi, rfl⟩, ha⟩
  · have HE : Hid (Ev w0 b c r pb po t G w RNode ((loadP k).run s m) (Halt pb po) w1) := Ev.die ho (ha.back HB.out)
    clear hl hE ho ha
    unfold Halt
    go_wp2
    exact ⟨rfl, HE.out⟩
  · obtain ⟨v1, l1⟩ := ha.svar HL.out HV.out
    have hb1 := (Below.refl w1.heap.size w1).alloc (Nat.le_refl _) (.cells (x.1.row p).toArray 38)
    have hn := snew w1 (x.1.row p) 38
    have hln := ha.sys.fresh (.cells (x.1.row p).toArray 38)
    have ha1 := (ha.back HB.out).later hb1
    have hcl := eclone ha1 p.s0 x.1.nx hi
    have c2 := hn.cell (i := 2) rfl
    have HV1 := Lib.hid (v1.later hb1)
    have HL1 := Lib.hid (l1.same hb1.size)
    have HN := Lib.hid hn
    have HLN := Lib.hid hln
    have HO := Lib.hid ho
    have HB1 := Lib.hid ha.but.size
    simp only [Nd.row] at hcl c2
    unfold Nd.v
    clear hl hE ho ha v1 l1 hi hb1 hn hln ha1
    go_wp2_with fail
    refine hcl.mono ?_
    rintro e w2 ⟨⟨sl, G2, rfl, hsl, ha2, hg2⟩, hb2⟩
    have n2 := HN.out.later hb2
    have v2 := HV1.out.later hb2
    have ln2 := HLN.out.grow hb2.size hg2
    have lv2 := HL1.out.grow hb2.size hg2
    have e2 := n2.cell (i := 2) rfl
    have fn := n2.fz
    have b3 : But w1.heap.size w2 (w2.setCell ⟨w1.heap.size, 2, none⟩ (.slice sl.a sl.n sl.cap)) := (But.refl _ _).set _ _
    have n3 : SVar (w2.setCell ⟨w1.heap.size, 2, none⟩ (.slice sl.a sl.n sl.cap)) w1.heap.size (x.1.row ⟨sl, .nil, .nil, .nil⟩) := n2.set (i := 2) (by simp [Nd.row]) _
    have hsz : w.heap.size < w1.heap.size := by
      have h1 := HB1.out
      simp only [World.size_alloc] at h1
      omega
    have v3 := v2.same b3.size (b3.block _ v2.lt (by omega))
    have ha3 := ha2.aside b3 ln2 (by omega)
    have hld := n3.load sh27
    have hst := v3.store (row' := x.1.row ⟨sl, .nil, .nil, .nil⟩) rfl sh27 (x.1.row_one _)
    have HF : Hid (Ev w0 b c r pb po t G w RNode ((loadP k).run s m) (.returned (.tuple #[x.1.v ⟨sl, .nil, .nil, .nil⟩, .int .i64 x.2])) (sput (w2.setCell ⟨w1.heap.size, 2, none⟩ (.slice sl.a sl.n sl.cap)) w.heap.size (x.1.row ⟨sl, .nil, .nil, .nil⟩)) ∧ (loadVar 38 ⟨w.heap.size, 0, none⟩).run Tryd.prog (sput (w2.setCell ⟨w1.heap.size, 2, none⟩ (.slice sl.a sl.n sl.cap)) w.heap.size (x.1.row ⟨sl, .nil, .nil, .nil⟩)) = .ok (x.1.v ⟨sl, .nil, .nil, .nil⟩) (sput (w2.setCell ⟨w1.heap.size, 2, none⟩ (.slice sl.a sl.n sl.cap)) w.heap.size (x.1.row ⟨sl, .nil, .nil, .nil⟩))) :=
      ⟨Ev.ret HO.out ⟨⟨sl, .nil, .nil, .nil⟩, hsl, rfl⟩ (ha3.aside (But.sput _ _ _) (lv2.same b3.size) (Nat.le_refl _)), (v3.put (row' := x.1.row ⟨sl, .nil, .nil, .nil⟩) rfl).loadVar sh27⟩
    generalize sput (w2.setCell ⟨w1.heap.size, 2, none⟩ (.slice sl.a sl.n sl.cap)) w.heap.size (x.1.row ⟨sl, .nil, .nil, .nil⟩) = W at hst HF
    unfold Nd.v at HF
    simp only [Nd.row] at hld hst
    clear hcl c2 n2 v2 ln2 lv2 b3 n3 v3 ha3 ha2 hsl hg2 hb2 HN HV1 HL1 HLN
    go_wp2_with (first | ((with_reducible refine load_run ?_ (.tmp 6) 38 ?_ ?_ hld ?_); exact rfl; exact rfl; exact rfl) | ((with_reducible refine store_run ?_ (.tmp 4) (.tmp 18) 38 ?_ ?_ ?_ hst ?_); exact rfl; exact rfl; exact rfl; exact rfl))
    exact bodyPost_ret (res_ct (.int .i64 x.2) Tryd.results32 rfl rfl HF.out.2) rfl HF.out.1
/-- A new slice of such numbers, and all else as it was. -/
structure Owned (w0 : World) (b c r pb po : Nat) (t : Value) (G : List (Nat × List Value)) (w : World) (m : M) (s : Pt) (l : List Int) (sl : Sl) (w' : World) : Prop where
  n : sl.n = l.length
  cap : sl.n ≤ sl.cap
  aft : Aft w0 b c r pb po t G w t G w' m s
  row : ORow w0 b c r pb t G w' (.slice sl.a sl.n sl.cap) l
  same : ∀ z, z < w.heap.size → w'.heap[z]? = w.heap[z]?
set_option maxHeartbeats 1000000 in
end
end Go.Proofs.YtibimnibmengpaaDoor
/- What Lift, Undo, taken and Fell's closure come to. Conditions: at most 400000 asks; at most 90000 links. -/
namespace Go.Proofs.YtibimnibmengpaaDoor
open Go.RowKit Go.Op
set_option maxRecDepth 100000

def liftP (k : Int) : Pr Int := (takeP k).bind fun x => if x.2 = 0 then undoP k [x.1.pv] else .ret x.2
def undoNP (k : Int) : Pr Int := (loadP k).bind fun x => if x.2 = 0 then undoP k (x.1.head :: x.1.nx) else .ret x.2
theorem take_count (k : Int) (s : Pt) (m : M) : m.count ≤ ((takeP k).run s m).2.2.count ∧ ((takeP k).run s m).2.2.count ≤ m.count + 1 := by
  rw [takeP, Pr.run_ask]
  have h := ask_count s (.load k) m
  rcases ha : s.ask (.load k) m with ⟨_ | a, s', m'⟩
  all_goals
    rw [ha] at h
    simp only [Pr.run]
    exact ⟨h.1, h.2.1⟩
theorem load_count (k : Int) (s : Pt) (m : M) : m.count ≤ ((loadP k).run s m).2.2.count ∧ ((loadP k).run s m).2.2.count ≤ m.count + 1 := by
  rw [loadP, Pr.run_ask]
  have h := ask_count s (.load k) m
  rcases ha : s.ask (.load k) m with ⟨_ | a, s', m'⟩
  all_goals
    rw [ha] at h
    simp only [Pr.run]
    exact ⟨h.1, h.2.1⟩
section
variable {w0 : World} {b c r pb po : Nat} {t t1 : Value} {G G1 : List (Nat × List Value)} {w w1 w2 : World} {m m1 : M} {s s1 : Pt}
set_option maxHeartbeats 1000000 in
set_option maxHeartbeats 1000000 in
/-- What a prev that is taken told; 0: it tells nothing, or somebody else was ahead. -/
def takenP (k : Int) : Pr (Int × Int) := .ask (.word k) fun a => if a.err = 0 ∧ a.n ≠ 0 then .ask (.swap k a.n 0) fun x => if x.ok = true then .ret (a.n, 0) else .ret (0, x.err) else .ret (0, a.err)
set_option maxHeartbeats 1000000 in
end
end Go.Proofs.YtibimnibmengpaaDoor
