/- A descriptor in a variable; what held and Load come to. Conditions: at most 900000 asks. -/
import Derived.Test.YteiikkkcjpfapaaDoorPrB
import Derived.Deep.MidRow
namespace Go.Proofs.YteiikkkcjpfapaaDoor
open Go.RowKit Go.Op
set_option maxRecDepth 100000

def Ds.row (d : Ds) : List Value := [.int .i64 d.ver, .int .i64 d.bf, .int .i64 d.st, .slice d.ad d.n d.cap]
def d0 : Ds := ⟨0, 0, 0, [], none, 0, 0⟩
theorem size52 : (Tryd.prog.info? 52).map (·.size) = some 4 := by kernel_rfl
/-- A descriptor in a variable. -/
structure DVar (w : World) (z : Nat) (d : Ds) : Prop where
  lt : z < w.heap.size
  fz : ∀ i, w.frozen? ⟨z, i, none⟩ = false
  at_ : w.rangeAt z 0 d.row
def dput (w : World) (z : Nat) (d : Ds) : World := w.setCells z 0 d.row
def dobj : Obj := .cells #[.int .i64 0, .int .i64 0, .int .i64 0, .slice none 0 0] 52
section
variable {w w1 : World} {z : Nat} {d : Ds}
theorem DVar.cells (h : DVar w z d) : w.cell? ⟨z, 0, none⟩ = some (.int .i64 d.ver) ∧ w.cell? ⟨z, 1, none⟩ = some (.int .i64 d.bf) ∧ w.cell? ⟨z, 2, none⟩ = some (.int .i64 d.st) ∧ w.cell? ⟨z, 3, none⟩ = some (.slice d.ad d.n d.cap) :=
  ⟨h.at_ 0 _ rfl, h.at_ 1 _ rfl, h.at_ 2 _ rfl, h.at_ 3 _ rfl⟩
theorem DVar.load (h : DVar w z d) : (Instr.loadAt 52 (.pointer (some ⟨z, 0, none⟩))).run Tryd.prog w = .ok d.v w := run_loadAt_mid w z 0 52 d.row _ h.at_ Tryd.underlying52 rfl size52
theorem DVar.loadVar (h : DVar w z d) : (loadVar 52 ⟨z, 0, none⟩).run Tryd.prog w = .ok d.v w := run_loadVar_mid w z 0 52 d.row _ h.at_ Tryd.underlying52 rfl size52
theorem DVar.there (h : DVar w z d) : w.there z 0 4 := fun j hj => ⟨h.at_.isSome j hj, h.fz _⟩
theorem DVar.store (h : DVar w z d) (d' : Ds) : (Instr.storeAt 52 (.pointer (some ⟨z, 0, none⟩)) d'.v).run Tryd.prog w = .ok () (dput w z d') :=
  run_storeAt_mid w z 0 52 d'.row.toArray h.there size52 (all_oneCell_toArray fun v hv => by
    simp [Ds.row] at hv
    rcases hv with rfl | rfl | rfl | rfl <;> rfl)
theorem DVar.put (h : DVar w z d) (d' : Ds) : DVar (dput w z d') z d' :=
  ⟨by unfold dput; rw [Free.size_setCells]; exact h.lt, fun i => by unfold dput; simp only [Ds.row, World.setCells, World.frozen?_setCell]; exact h.fz i, World.rangeAt_setCells_same w z 0 d'.row h.there⟩
theorem DVar.same (h : DVar w z d) (hs : w.heap.size ≤ w1.heap.size) (hb : w1.heap[z]? = w.heap[z]?) : DVar w1 z d :=
  ⟨Nat.lt_of_lt_of_le h.lt hs, fun i => by rw [World.frozen?_of_block (w := w) (a := ⟨z, i, none⟩) hb]; exact h.fz i, fun j v hj => by rw [World.cell?_of_block (w := w) (a := ⟨z, 0 + j, none⟩) hb]; exact h.at_ j v hj⟩
theorem DVar.later (h : DVar w z d) (hb : Below w.heap.size w w1) : DVar w1 z d := h.same hb.size (hb.block z h.lt)
theorem dnew (w : World) : DVar (w.alloc dobj) w.heap.size d0 :=
  ⟨by simp, fun i => World.frozen?_alloc_at _ 52 _ i rfl, fun j v hj => by rw [Nat.zero_add, dobj, World.cell?_alloc_new]; simpa [Ds.row, d0] using hj⟩
def Ds.obj (d : Ds) : Obj := .cells #[.int .i64 d.ver, .int .i64 d.bf, .int .i64 d.st, .slice d.ad d.n d.cap] 52
theorem dnewd (w : World) (d : Ds) : DVar (w.alloc d.obj) w.heap.size d :=
  ⟨by simp, fun i => World.frozen?_alloc_at _ 52 _ i rfl, fun j v hj => by rw [Nat.zero_add, Ds.obj, World.cell?_alloc_new]; simpa [Ds.row] using hj⟩
theorem dput_but (w : World) (z : Nat) (d : Ds) : But z w (dput w z d) := by
  exact ((((But.refl z w).set 0 (.int .i64 d.ver)).set 1 (.int .i64 d.bf)).set 2 (.int .i64 d.st)).set 3 (.slice d.ad d.n d.cap)
theorem dput_size (w : World) (z : Nat) (d : Ds) : (dput w z d).heap.size = w.heap.size := Free.size_setCells ..
end
theorem Aft.cells {w0 : World} {b c r pb po : Nat} {t t1 : Value} {G G1 : List (Nat × List Sw)} {w w1 : World} {m1 : M} {s1 : Pt} {z : Nat} {d : Ds} (ha : Aft w0 b c r pb po t G w t1 G1 w1 m1 s1) (hz : Loc w0 b c r pb t G w z) (h : DVar w z d) : DVar w1 z d ∧ Loc w0 b c r pb t1 G1 w1 z :=
  ⟨h.same ha.but.size (hz.aft ha).2, (hz.aft ha).1⟩
theorem d0_in {G : List (Nat × List Sw)} : d0.In G := ⟨rfl, Nat.le_refl _, by decide, .inl rfl⟩
def heldR (a : An) : Ds × Int := if a.err = 0 then (match a.held with
    | .desc d => (d, 0)
    | _ => (d0, 6)) else (d0, a.err)
def heldP (h : Int) : Pr (Ds × Int) := .ask (.load h) fun a => .ret (heldR a)
def RHeld (G' : List (Nat × List Sw)) (a : Ds × Int) (v : Value) : Prop := ∃ d : Ds, d.e = a.1 ∧ d.In G' ∧ v = .tuple #[d.v, .int .i64 a.2]
theorem as52_yes (v : Value) (w : World) : (Instr.typeAssert (.iface 52 v) 20 52 true).run Tryd.prog w = .ok (.tuple #[v, .bool true]) w := by kernel_rfl
theorem as52_no (w : World) : (Instr.typeAssert .nilIface 20 52 true).run Tryd.prog w = .ok (.tuple #[d0.v, .bool false]) w := by kernel_rfl
theorem as52_word (v : Value) (w : World) : (Instr.typeAssert (.iface 113 v) 20 52 true).run Tryd.prog w = .ok (.tuple #[d0.v, .bool false]) w := by kernel_rfl
theorem as52_text (v : Value) (w : World) : (Instr.typeAssert (.iface 9 v) 20 52 true).run Tryd.prog w = .ok (.tuple #[d0.v, .bool false]) w := by kernel_rfl
/-- What a handle's block is, by assertion. -/
theorem as52_any (x : Held) : ∃ d : Ds, ∃ ok : Bool, (∀ w, (Instr.typeAssert x.v 20 52 true).run Tryd.prog w = .ok (.tuple #[d.v, .bool ok]) w) ∧ (∀ G, x.In G → d.In G) ∧ (if ok = true then (d.e, (0 : Int)) else (d0, 6)) = heldR ⟨x.e, 0, false, 0⟩ ∧ (ok = false → d = d0) := by
  cases x with
  | no => exact ⟨d0, false, as52_no, fun _ _ => d0_in, rfl, fun _ => rfl⟩
  | word n => exact ⟨d0, false, as52_word _, fun _ _ => d0_in, rfl, fun _ => rfl⟩
  | desc d => exact ⟨d, true, as52_yes _, fun G h => h d rfl, rfl, fun e => (by cases e)⟩
  | text x => exact ⟨d0, false, as52_text _, fun _ _ => d0_in, rfl, fun _ => rfl⟩
theorem build0 (w : World) : (Instr.build 52 #[]).run Tryd.prog w = .ok d0.v w := by kernel_rfl
end Go.Proofs.YteiikkkcjpfapaaDoor
