/- The law's same, of two rows that are the same. Condition: at most 1000 numbers. -/
import Derived.Test.YteiikkkcjpfapaaDoorRi
import Derived.Deep.MidRow
namespace Go.Proofs.YteiikkkcjpfapaaDoor
open Go.RowKit Go.Op
set_option maxRecDepth 100000

theorem same_any (w : World) {B1 B2 : Nat} (a1 a2 : Option Addr) (c1 c2 : Nat) (l : List Int) (h1 : RowN B1 w a1 l) (h2 : RowN B2 w a2 l) (hl : l.length ≤ 1000) :
    Calls Tryd.prog 17 #[.slice a1 l.length c1, .slice a2 l.length c2] w fun e w' => e = .returned (.bool true) ∧ Below w.heap.size w w' := by
  have hl2 : (l.length : Int) ≤ 1000 := by omega
  have H := Lib.hid (⟨h1, h2⟩ : _ ∧ _)
  clear h1 h2
  go_enter Tryd.func17, Tryd.ntmps17
  go_wp2_with fail
  go_loopw [5] (fun iv wr => ∃ i : Nat, iv = .int .i64 (i : Int) ∧ i ≤ l.length ∧ Hid (Below w.heap.size w wr)) (fun iv _ => l.length - (intOf iv).toNat)
  case atStart => exact ⟨0, rfl, Nat.zero_le _, Below.refl _ _⟩
  case round =>
    obtain ⟨i, rfl, hi, hR⟩ := hrel
    by_cases hlt : i < l.length
    · have i1 : (i : Int) < (l.length : Int) := by omega
      obtain ⟨x, hx⟩ : ∃ x, l[i]? = some x := ⟨_, List.getElem?_eq_getElem hlt⟩
      obtain ⟨g1, rfl, -, hg1, hc1⟩ : ∃ g, a1 = some ⟨g, 0, none⟩ ∧ B1 ≤ g ∧ g < w.heap.size ∧ ∀ (i : Nat) (x : Int), l[i]? = some x → w.cell? ⟨g, i, none⟩ = some (.int .i64 x) := by
        rcases H.out.1 with e | e
        · rw [e] at hlt; simp at hlt
        · exact e
      obtain ⟨g2, rfl, -, hg2, hc2⟩ : ∃ g, a2 = some ⟨g, 0, none⟩ ∧ B2 ≤ g ∧ g < w.heap.size ∧ ∀ (i : Nat) (x : Int), l[i]? = some x → w.cell? ⟨g, i, none⟩ = some (.int .i64 x) := by
        rcases H.out.2 with e | e
        · rw [e] at hlt; simp at hlt
        · exact e
      have k1 := (hR.out.cell (p := ⟨g1, i, none⟩) hg1).trans (hc1 i x hx)
      have k2 := (hR.out.cell (p := ⟨g2, i, none⟩) hg2).trans (hc2 i x hx)
      have q1 := at_25 g1 l.length c1 i hlt
      have q2 := at_25 g2 l.length c2 i hlt
      have HH : Hid (∀ n, Below w.heap.size w (wr.drewN n)) := fun n => hR.out.trans (below_drewN wr n)
      clear hR hx hg1 hg2 hc1 hc2
      go_wp2_with fail
      go_quiet (fail)
      go_wp2_with fail
      go_roundw
      case rel => exact ⟨i + 1, by simp, by omega, HH.out _⟩
      case measure => simp [intOf]; omega
    · obtain rfl : i = l.length := by omega
      go_wp2
      go_ret
      exact ⟨rfl, hR.out⟩
end Go.Proofs.YteiikkkcjpfapaaDoor
/- What the law's follow comes to. Conditions: the reference holds 8 cells, each change of one of them; numbers of rounds and versions are small. -/
namespace Go.FreeV
open Go Go.RowKit Go.Free Go.Op
theorem d_conv {P : Program} {effs : List Nat} {ops : Array Oper} {S : List Bool → (Nat → Value) → World → Prop} {i : Nat} (o0 : Oper) (ho : ops[i]? = some o0) {A B : TypeId} {x : Operand} (hop : o0.op = .convert A B x) {vx v : (Nat → Value) → Value} (h : ∀ β bs w, S bs β w → Due ops effs i bs → (convert A B (vx β)).run P w = .ok (v β) w) : Does P effs ops S ⟨i, fun β => [vx β], v, .read⟩ := by
  rintro o h1 β ρ h2 bs w hS hD
  rw [ho] at h1
  cases h1
  rw [hop] at h2
  simp [Op.operands] at h2
  simp [execOp, hop, h2, h β bs w hS hD]
end Go.FreeV
namespace Go.Proofs.YteiikkkcjpfapaaDoor
open Go.RowKit Go.Op
set_option maxRecDepth 100000

theorem enter_48 (xs : Array Value) (w : World) : (callFunc 48 xs).run Tryd.prog w = .ok (.enter 48 xs) w := by kernel_rfl
theorem enter_49 (xs : Array Value) (w : World) : (callFunc 49 xs).run Tryd.prog w = .ok (.enter 49 xs) w := by kernel_rfl
def Wg.row (x : Wg) (s : Ws) : List Value := [.slice s.ca x.cells.length s.cc, .int .i64 x.ver, .int .i64 x.bf, .bool x.done, .slice s.wa x.wait.length s.wc]
theorem size32 : (Tryd.prog.info? 32).map (·.size) = some 5 := by kernel_rfl
/-- A reference's world in a variable. -/
structure GVar (w : World) (z : Nat) (x : Wg) (s : Ws) : Prop where
  lt : z < w.heap.size
  fz : ∀ i, w.frozen? ⟨z, i, none⟩ = false
  at_ : w.rangeAt z 0 (x.row s)
def gput (w : World) (z : Nat) (x : Wg) (s : Ws) : World := w.setCells z 0 (x.row s)
def gobj (x : Wg) (s : Ws) : Obj := .cells #[.slice s.ca x.cells.length s.cc, .int .i64 x.ver, .int .i64 x.bf, .bool x.done, .slice s.wa x.wait.length s.wc] 32
def gz : Wg := ⟨[], 0, 0, false, []⟩
def sz0 : Ws := ⟨none, 0, none, 0⟩
section
variable {w w1 : World} {z : Nat} {x x' : Wg} {s s' : Ws}
theorem GVar.cells (h : GVar w z x s) : w.cell? ⟨z, 0, none⟩ = some (.slice s.ca x.cells.length s.cc) ∧ w.cell? ⟨z, 1, none⟩ = some (.int .i64 x.ver) ∧ w.cell? ⟨z, 2, none⟩ = some (.int .i64 x.bf) ∧ w.cell? ⟨z, 3, none⟩ = some (.bool x.done) ∧ w.cell? ⟨z, 4, none⟩ = some (.slice s.wa x.wait.length s.wc) :=
  ⟨h.at_ 0 _ rfl, h.at_ 1 _ rfl, h.at_ 2 _ rfl, h.at_ 3 _ rfl, h.at_ 4 _ rfl⟩
theorem GVar.load (h : GVar w z x s) : (Instr.loadAt 32 (.pointer (some ⟨z, 0, none⟩))).run Tryd.prog w = .ok (x.v s) w := run_loadAt_mid w z 0 32 (x.row s) _ h.at_ Tryd.underlying32 rfl size32
theorem GVar.loadVar (h : GVar w z x s) : (loadVar 32 ⟨z, 0, none⟩).run Tryd.prog w = .ok (x.v s) w := run_loadVar_mid w z 0 32 (x.row s) _ h.at_ Tryd.underlying32 rfl size32
theorem GVar.there (h : GVar w z x s) : w.there z 0 5 := fun j hj => ⟨h.at_.isSome j hj, h.fz _⟩
theorem GVar.store (h : GVar w z x s) (x' : Wg) (s' : Ws) : (Instr.storeAt 32 (.pointer (some ⟨z, 0, none⟩)) (x'.v s')).run Tryd.prog w = .ok () (gput w z x' s') :=
  run_storeAt_mid w z 0 32 (x'.row s').toArray h.there size32 (all_oneCell_toArray fun v hv => by
    simp [Wg.row] at hv
    rcases hv with rfl | rfl | rfl | rfl | rfl <;> rfl)
theorem GVar.put (h : GVar w z x s) (x' : Wg) (s' : Ws) : GVar (gput w z x' s') z x' s' :=
  ⟨by unfold gput; rw [Free.size_setCells]; exact h.lt, fun i => by unfold gput; simp only [Wg.row, World.setCells, World.frozen?_setCell]; exact h.fz i, World.rangeAt_setCells_same w z 0 (x'.row s') h.there⟩
theorem GVar.same (h : GVar w z x s) (hs : w.heap.size ≤ w1.heap.size) (hb : w1.heap[z]? = w.heap[z]?) : GVar w1 z x s :=
  ⟨Nat.lt_of_lt_of_le h.lt hs, fun i => by rw [World.frozen?_of_block (w := w) (a := ⟨z, i, none⟩) hb]; exact h.fz i, fun j v hj => by rw [World.cell?_of_block (w := w) (a := ⟨z, 0 + j, none⟩) hb]; exact h.at_ j v hj⟩
theorem GVar.later (h : GVar w z x s) (hb : Below w.heap.size w w1) : GVar w1 z x s := h.same hb.size (hb.block z h.lt)
theorem gnew (w : World) (x : Wg) (s : Ws) : GVar (w.alloc (gobj x s)) w.heap.size x s :=
  ⟨by simp, fun i => World.frozen?_alloc_at _ 32 _ i rfl, fun j v hj => by rw [Nat.zero_add, gobj, World.cell?_alloc_new]; simpa [Wg.row] using hj⟩
theorem gput_but (w : World) (z : Nat) (x : Wg) (s : Ws) : But z w (gput w z x s) :=
  (((((But.refl z w).set 0 (.slice s.ca x.cells.length s.cc)).set 1 (.int .i64 x.ver)).set 2 (.int .i64 x.bf)).set 3 (.bool x.done)).set 4 (.slice s.wa x.wait.length s.wc)
theorem gput_size (w : World) (z : Nat) (x : Wg) (s : Ws) : (gput w z x s).heap.size = w.heap.size := Free.size_setCells ..
/-- A reference's world whose rows lie where P says. -/
structure WIsP (P : Nat → Prop) (w : World) (x : Wg) (s : Ws) : Prop where
  c : x.cells = [] ∨ ∃ g, s.ca = some ⟨g, 0, none⟩ ∧ P g ∧ g < w.heap.size ∧ ∀ (i : Nat) (y : Int), x.cells[i]? = some y → w.cell? ⟨g, i, none⟩ = some (.int .i64 y)
  w : x.wait = [] ∨ ∃ g, s.wa = some ⟨g, 0, none⟩ ∧ P g ∧ g < w.heap.size ∧ ∀ (i : Nat) (y : Nat × Int), x.wait[i]? = some y → w.cell? ⟨g, i * 2, none⟩ = some (.int .i64 (y.1 : Int)) ∧ w.cell? ⟨g, i * 2 + 1, none⟩ = some (.int .i64 y.2)
  cc : x.cells.length ≤ s.cc
theorem WIsP.wis {P : Nat → Prop} (h : WIsP P w x s) : WIs 0 w x s :=
  ⟨h.c.imp id fun ⟨g, e, _, h2, h3⟩ => ⟨g, e, Nat.zero_le _, h2, h3⟩, h.w.imp id fun ⟨g, e, _, h2, h3⟩ => ⟨g, e, Nat.zero_le _, h2, h3⟩, h.cc⟩
theorem WIs.wisP {P : Nat → Prop} {B : Nat} (h : WIs B w x s) (hP : ∀ g, B ≤ g → P g) : WIsP P w x s :=
  ⟨h.c.imp id fun ⟨g, e, h1, h2, h3⟩ => ⟨g, e, hP g h1, h2, h3⟩, h.w.imp id fun ⟨g, e, h1, h2, h3⟩ => ⟨g, e, hP g h1, h2, h3⟩, h.cc⟩
theorem WIsP.imp {P Q : Nat → Prop} (h : WIsP P w x s) (hP : ∀ g, P g → g < w.heap.size → Q g) : WIsP Q w x s :=
  ⟨h.c.imp id fun ⟨g, e, h1, h2, h3⟩ => ⟨g, e, hP g h1 h2, h2, h3⟩, h.w.imp id fun ⟨g, e, h1, h2, h3⟩ => ⟨g, e, hP g h1 h2, h2, h3⟩, h.cc⟩
theorem WIsP.same {P : Nat → Prop} (h : WIsP P w x s) (hs : w.heap.size ≤ w1.heap.size) (hk : ∀ g, P g → g < w.heap.size → w1.heap[g]? = w.heap[g]?) : WIsP P w1 x s :=
  ⟨h.c.imp id fun ⟨g, e, h1, h2, h3⟩ => ⟨g, e, h1, Nat.lt_of_lt_of_le h2 hs, fun i y hy => by rw [World.cell?_of_block (w := w) (a := ⟨g, i, none⟩) (hk g h1 h2)]; exact h3 i y hy⟩,
   h.w.imp id fun ⟨g, e, h1, h2, h3⟩ => ⟨g, e, h1, Nat.lt_of_lt_of_le h2 hs, fun i y hy => by rw [World.cell?_of_block (w := w) (a := ⟨g, i * 2, none⟩) (hk g h1 h2), World.cell?_of_block (w := w) (a := ⟨g, i * 2 + 1, none⟩) (hk g h1 h2)]; exact h3 i y hy⟩, h.cc⟩
theorem WIsP.later {P : Nat → Prop} (h : WIsP P w x s) (hb : Below w.heap.size w w1) : WIsP P w1 x s := h.same hb.size fun g _ h2 => hb.block g h2
end
def Wg.pub (x : Wg) (ver : Int) (l : List (Nat × Int)) : Wg := ⟨x.cells, ver, x.ver, false, l⟩
structure Wg.Fit (x : Wg) : Prop where
  len : x.cells.length = 8
  wl : x.wait.length ≤ 8
  mem : ∀ p ∈ x.wait, p.1 < 8
def Wg.calm (x : Wg) : Wg := if x.done = true then x else x.help
def Wg.foll (x : Wg) (n : Nat) (more : Int) (wt : Bool) (i : Nat) : Wg := if wt = true then x.calm.pub (x.ver + 1 + more) (chg n i) else (x.calm.pub (x.ver + 1 + more) (chg n i)).help
theorem Wg.Fit.help {x : Wg} (h : x.Fit) : x.help.Fit := ⟨by simp only [Wg.help, setAll_len]; exact h.len, by simp [Wg.help], fun p hp => by simp [Wg.help] at hp⟩
theorem Wg.Fit.calm {x : Wg} (h : x.Fit) : x.calm.Fit := by
  unfold Wg.calm; split
  · exact h
  · exact h.help
theorem Wg.Fit.pub {x : Wg} (h : x.Fit) (ver : Int) (n i : Nat) : (x.pub ver (chg n i)).Fit := ⟨h.len, chgTo_len n i 8, fun p hp => (chgTo_mem n i 8 p hp).1⟩
theorem Wg.Fit.foll {x : Wg} (h : x.Fit) (n : Nat) (more : Int) (wt : Bool) (i : Nat) : (x.foll n more wt i).Fit := by
  unfold Wg.foll; split
  · exact h.calm.pub _ _ _
  · exact (h.calm.pub _ _ _).help
/-- The three variables of follow. -/
structure Fl (P : Nat → Prop) (w : World) (n more : Nat) (wt : Bool) (x : Wg) (s : Ws) (W : World) : Prop where
  below : Below w.heap.size w W
  g : GVar W w.heap.size x s
  q0 : W.cell? ⟨w.heap.size + 1, 0, none⟩ = some (.int .u8 (n : Int))
  q1 : W.cell? ⟨w.heap.size + 1, 1, none⟩ = some (.int .u8 (more : Int))
  q2 : W.cell? ⟨w.heap.size + 1, 2, none⟩ = some (.bool wt)
  z : GVar W (w.heap.size + 2) gz sz0
  ws : WIsP (fun g => P g ∧ g ≠ w.heap.size ∧ g ≠ w.heap.size + 1 ∧ g ≠ w.heap.size + 2) W x s
section
variable {P : Nat → Prop} {w W W1 : World} {n more : Nat} {wt : Bool} {x x' : Wg} {s s' : Ws}
theorem Fl.later (h : Fl P w n more wt x s W) (hb : Below W.heap.size W W1) : Fl P w n more wt x s W1 := by
  have h1 := h.g.lt
  have h2 := h.z.lt
  exact ⟨h.below.trans (hb.mono h.below.size), h.g.later hb, (hb.cell (p := ⟨w.heap.size + 1, 0, none⟩) (by simp only; omega)).trans h.q0, (hb.cell (p := ⟨w.heap.size + 1, 1, none⟩) (by simp only; omega)).trans h.q1, (hb.cell (p := ⟨w.heap.size + 1, 2, none⟩) (by simp only; omega)).trans h.q2, h.z.later hb, h.ws.later hb⟩
theorem Fl.put (h : Fl P w n more wt x s W) (hw : WIsP (fun g => P g ∧ g ≠ w.heap.size ∧ g ≠ w.heap.size + 1 ∧ g ≠ w.heap.size + 2) W x' s') : Fl P w n more wt x' s' (gput W w.heap.size x' s') := by
  have hb := gput_but W w.heap.size x' s'
  have h1 := h.g.lt
  have h2 := h.z.lt
  have k : ∀ j, (gput W w.heap.size x' s').cell? ⟨w.heap.size + 1, j, none⟩ = W.cell? ⟨w.heap.size + 1, j, none⟩ := fun j => World.cell?_of_block (w := W) (a := ⟨w.heap.size + 1, j, none⟩) (hb.block (w.heap.size + 1) (by omega) (by omega))
  refine ⟨⟨hb.os.trans h.below.os, hb.tape.trans h.below.tape, hb.output.trans h.below.output, Nat.le_trans h.below.size hb.size, fun k (hk : k < w.heap.size) => (hb.block k (by omega) (by omega)).trans (h.below.block k hk)⟩, h.g.put x' s', (k 0).trans h.q0, (k 1).trans h.q1, (k 2).trans h.q2, h.z.same hb.size (hb.block _ h2 (by omega)), hw.same hb.size fun g hg hl => hb.block g hl hg.2.1⟩
theorem fl_start (w : World) (hx : WIsP P w x s) (n more : Nat) (wt : Bool) : Fl P w n more wt x s (((w.alloc (gobj x s)).alloc (.cells #[.int .u8 (n : Int), .int .u8 (more : Int), .bool wt] 39)).alloc (gobj gz sz0)) := by
  have b1 := (Below.refl w.heap.size w).alloc (Nat.le_refl _) (gobj x s)
  have s1 : (w.alloc (gobj x s)).heap.size = w.heap.size + 1 := by simp
  have b2 := (Below.refl (w.alloc (gobj x s)).heap.size (w.alloc (gobj x s))).alloc (Nat.le_refl _) (.cells #[.int .u8 (n : Int), .int .u8 (more : Int), .bool wt] 39)
  have s2 : ((w.alloc (gobj x s)).alloc (.cells #[.int .u8 (n : Int), .int .u8 (more : Int), .bool wt] 39)).heap.size = w.heap.size + 2 := by simp
  have b3 := (Below.refl ((w.alloc (gobj x s)).alloc (.cells #[.int .u8 (n : Int), .int .u8 (more : Int), .bool wt] 39)).heap.size _).alloc (Nat.le_refl _) (gobj gz sz0)
  have b23 : Below (w.alloc (gobj x s)).heap.size (w.alloc (gobj x s)) (((w.alloc (gobj x s)).alloc (.cells #[.int .u8 (n : Int), .int .u8 (more : Int), .bool wt] 39)).alloc (gobj gz sz0)) := b2.alloc b2.size _
  have b13 : Below w.heap.size w (((w.alloc (gobj x s)).alloc (.cells #[.int .u8 (n : Int), .int .u8 (more : Int), .bool wt] 39)).alloc (gobj gz sz0)) := b1.trans (b23.mono (by omega))
  have hz := gnew ((w.alloc (gobj x s)).alloc (.cells #[.int .u8 (n : Int), .int .u8 (more : Int), .bool wt] 39)) gz sz0
  rw [s2] at hz
  have k : ∀ (j : Nat) v, (#[.int .u8 (n : Int), .int .u8 (more : Int), .bool wt] : Array Value)[j]? = some v → (((w.alloc (gobj x s)).alloc (.cells #[.int .u8 (n : Int), .int .u8 (more : Int), .bool wt] 39)).alloc (gobj gz sz0)).cell? ⟨w.heap.size + 1, j, none⟩ = some v := fun j v hv => by
    rw [b3.cell (p := ⟨w.heap.size + 1, j, none⟩) (by rw [s2]; simp only; omega), ← s1, World.cell?_alloc_new]
    exact hv
  exact ⟨b13, (gnew w x s).later b23, k 0 _ rfl, k 1 _ rfl, k 2 _ rfl, hz, (hx.imp fun g h1 h2 => ⟨h1, by omega, by omega, by omega⟩).later b13⟩
/-- In region 3. -/
structure GMid (wr : World) (z : Nat) (x : Wg) (s : Ws) (ver : Int) (l : List (Nat × Int)) (bs : List Bool) (β : Nat → Value) (W : World) : Prop where
  b : bs[2]? = some false → Below wr.heap.size wr W
  a0 : bs[0]? = some true → bs[2]? = some false → ∃ a c, β 10 = .slice a l.length c ∧ RowC wr.heap.size W a l
  a1 : bs[1]? = some true → bs[2]? = some false → ∃ a c, β 11 = (x.pub ver l).v ⟨s.ca, s.cc, a, c⟩ ∧ RowC wr.heap.size W a l
  a2 : bs[2]? = some true → ∃ a c W0, Below wr.heap.size wr W0 ∧ RowC wr.heap.size W0 a l ∧ W = gput W0 z (x.pub ver l) ⟨s.ca, s.cc, a, c⟩
theorem gmid_start {wr : World} {z : Nat} {ver : Int} {l : List (Nat × Int)} {β : Nat → Value} : GMid wr z x s ver l [false, false, false] β wr.drew :=
  ⟨fun _ => (Below.refl _ _).drew, fun e => (by cases e), fun e => (by cases e), fun e => (by cases e)⟩
theorem gmid_chg {wr : World} {z : Nat} {ver : Int} {n i more : Nat} {bs : List Bool} {β : Nat → Value} (h : GMid wr z x s ver (chg n i) bs β W) (hn : n ≤ 255) (hi : i ≤ 1000) (h1 : bs[1]? = some false) (h2 : bs[2]? = some false) :
    Calls Tryd.prog 48 #[.agg #[.int .u8 (n : Int), .int .u8 (more : Int), .bool wt], .int .i64 (i : Int)] W fun e w' => ∃ u, e = .returned u ∧ GMid wr z x s ver (chg n i) (bs.set 0 true) (FreeV.upd β 10 u) w' := by
  refine (changes_any W n i hn hi (more : Int) wt).mono ?_
  rintro e w' ⟨a, c, rfl, hr, hb⟩
  have hB := h.b h2
  refine ⟨_, rfl, fun _ => hB.trans (hb.mono hB.size), fun _ _ => ⟨a, c, by simp only [FreeV.upd, if_true], hr.keep hB.size (Nat.le_refl _) (fun _ _ _ => rfl)⟩, fun e => ?_, fun e => ?_⟩
  · simp [h1] at e
  · simp [h2] at e
theorem gmid_pub {wr : World} {z : Nat} {ver : Int} {l : List (Nat × Int)} {bs : List Bool} {β : Nat → Value} (h : GMid wr z x s ver l bs β W) (h0 : bs[0]? = some true) (h2 : bs[2]? = some false) :
    Calls Tryd.prog 49 #[x.v s, .int .i64 ver, β 10] W fun e w' => ∃ u, e = .returned u ∧ GMid wr z x s ver l (bs.set 1 true) (FreeV.upd β 11 u) w' := by
  obtain ⟨a, c, e1, hr⟩ := h.a0 h0 h2
  rw [e1]
  refine (refpublish_any W x s ver a c l).mono ?_
  rintro e w' ⟨rfl, hb⟩
  have hB := h.b h2
  have hr2 : RowC wr.heap.size w' a l := hr.keep (Nat.le_refl _) hb.size (fun g _ h2 => hb.block g h2)
  refine ⟨_, rfl, fun _ => hB.trans (hb.mono hB.size), fun _ _ => ⟨a, c, by simp only [FreeV.upd]; rw [if_neg (by decide)]; exact e1, hr2⟩, fun _ _ => ⟨a, c, by simp only [FreeV.upd, if_true]; rfl, hr2⟩, fun e => ?_⟩
  simp [h2] at e
theorem gmid_store {wr : World} {z : Nat} {ver : Int} {l : List (Nat × Int)} {bs : List Bool} {β : Nat → Value} (hg : GVar wr z x s) (h : GMid wr z x s ver l bs β W) (h1 : bs[1]? = some true) (h2 : bs[2]? = some false) :
    ∃ w', (Instr.storeAt 32 (.pointer (some ⟨z, 0, none⟩)) (β 11)).run Tryd.prog W = .ok () w' ∧ GMid wr z x s ver l (bs.set 2 true) β w' := by
  obtain ⟨a, c, e1, hr⟩ := h.a1 h1 h2
  rw [e1]
  refine ⟨_, (hg.later (h.b h2)).store _ _, fun e => ?_, fun _ e => ?_, fun _ e => ?_, fun _ => ⟨a, c, W, h.b h2, hr, rfl⟩⟩
  all_goals rw [set_at h2] at e; cases e
theorem load_39 {p1 : Nat} {n more : Int} {wt : Bool} (h0 : W.cell? ⟨p1, 0, none⟩ = some (.int .u8 n)) (h1 : W.cell? ⟨p1, 1, none⟩ = some (.int .u8 more)) (h2 : W.cell? ⟨p1, 2, none⟩ = some (.bool wt)) : (Instr.loadAt 39 (.pointer (some ⟨p1, 0, none⟩))).run Tryd.prog W = .ok (.agg #[.int .u8 n, .int .u8 more, .bool wt]) W :=
  run_loadAt_mid W p1 0 39 [.int .u8 n, .int .u8 more, .bool wt] _ (fun j v hj => by
    rw [Nat.zero_add]
    match j, hj with
    | 0, hj => simp at hj; subst hj; exact h0
    | 1, hj => simp at hj; subst hj; exact h1
    | 2, hj => simp at hj; subst hj; exact h2) Tryd.underlying39 rfl (by kernel_rfl)
theorem load_5 {p : Addr} {n : Int} (h : W.cell? p = some (.int .u8 n)) : (Instr.loadAt 5 (.pointer (some p))).run Tryd.prog W = .ok (.int .u8 n) W := by go_simp
theorem conv_53 {n : Nat} (h : n ≤ 255) (W : World) : (convert 5 3 (.int .u8 (n : Int))).run Tryd.prog W = .ok (.int .i64 (n : Int)) W := by
  have h2 : (n : Int) ≤ 255 := by omega
  go_simp
  rw [IntKind.wrap_i64]; omega
end

set_option maxHeartbeats 1000000 in
theorem follow_any (w : World) {P : Nat → Prop} (x : Wg) (s : Ws) (hx : WIsP P w x s) (hP : ∀ g, w.heap.size ≤ g → P g) (hf : x.Fit) (n more i : Nat) (hn : n ≤ 255) (hm : more ≤ 255) (hi : i ≤ 1000) (hv : 0 ≤ x.ver ∧ x.ver ≤ 1000000) (wt : Bool) :
    Calls Tryd.prog 14 #[x.v s, .agg #[.int .u8 (n : Int), .int .u8 (more : Int), .bool wt], .int .i64 (i : Int)] w fun e w' => ∃ s', e = .returned ((x.foll n more wt i).v s') ∧ WIsP P w' (x.foll n more wt i) s' ∧ Below w.heap.size w w' := by
  obtain ⟨w1, hw1⟩ : ∃ W, W = ((w.alloc (gobj x s)).alloc (.cells #[.int .u8 (n : Int), .int .u8 (more : Int), .bool wt] 39)).alloc (gobj gz sz0) := ⟨_, rfl⟩
  have F1 : Fl P w n more wt x s w1 := by rw [hw1]; exact fl_start w hx n more wt
  have HW := Lib.hid hw1.symm
  have HFIT := Lib.hid hf
  replace hP := Lib.hid hP
  obtain ⟨cells, ver, bf, dn, wait⟩ := x
  obtain ⟨ca, cc, wa, wc⟩ := s
  simp only at hv
  obtain ⟨hv0, hv1⟩ := hv
  unfold gobj gz sz0 at HW
  unfold Wg.v
  simp only [List.length_nil] at HW ⊢
  clear hx hw1 hf
  have hm2 : (more : Int) ≤ 255 := by omega
  cases dn with
  | true =>
    have HF := Lib.hid F1
    obtain ⟨c0, c1, c2, c3, c4⟩ := F1.g.cells
    simp only at c0 c1 c2 c3 c4
    clear F1
    go_enter Tryd.func14, Tryd.ntmps14
    go_wp2_with (first | rw [HW.out] | fail)
    clear HW
    cases wt with
    | true =>
      refine FreeV.region_puts (S := GMid w1 w.heap.size (Wg.mk cells ver bf true wait) ⟨ca, cc, wa, wc⟩ (ver + 1 + (more : Int)) (chg n i)) (effs := [10, 11, 12])
        (tab := [⟨0, fun _ => [.pointer (some ⟨w.heap.size, 0, none⟩)], fun _ => ((Wg.mk cells ver bf true wait).v ⟨ca, cc, wa, wc⟩), .read⟩,
          ⟨2, fun _ => [.pointer (some ⟨w.heap.size, 1, none⟩)], fun _ => .int .i64 ver, .read⟩,
          ⟨3, fun _ => [.int .i64 ver, .int .i64 1], fun _ => .int .i64 (ver + 1), .pure⟩,
          ⟨5, fun _ => [.pointer (some ⟨w.heap.size + 1, 1, none⟩)], fun _ => .int .u8 (more : Int), .read⟩,
          ⟨6, fun _ => [.int .u8 (more : Int)], fun _ => .int .i64 (more : Int), .read⟩,
          ⟨7, fun _ => [.int .i64 (ver + 1), .int .i64 (more : Int)], fun _ => .int .i64 (ver + 1 + (more : Int)), .pure⟩,
          ⟨8, fun _ => [.pointer (some ⟨w.heap.size + 1, 0, none⟩)], fun _ => (.agg #[.int .u8 (n : Int), .int .u8 (more : Int), .bool true]), .read⟩,
          ⟨10, fun _ => [.func (.func 48) #[] #[], (.agg #[.int .u8 (n : Int), .int .u8 (more : Int), .bool true]), .int .i64 (i : Int)], fun β => (β 10), .get⟩,
          ⟨11, fun β => [.func (.func 49) #[] #[], ((Wg.mk cells ver bf true wait).v ⟨ca, cc, wa, wc⟩), .int .i64 (ver + 1 + (more : Int)), (β 10)], fun β => (β 11), .get⟩,
          ⟨12, fun β => [.pointer (some ⟨w.heap.size, 0, none⟩), (β 11)], fun _ => undef, .put⟩])
        (vs := [([], fun _ => ((Wg.mk cells ver bf true wait).v ⟨ca, cc, wa, wc⟩)), ([], fun _ => .pointer (some ⟨w.heap.size, 1, none⟩)), ([], fun _ => .int .i64 ver), ([], fun _ => .int .i64 (ver + 1)), ([], fun _ => .pointer (some ⟨w.heap.size + 1, 1, none⟩)), ([], fun _ => .int .u8 (more : Int)), ([], fun _ => .int .i64 (more : Int)), ([], fun _ => .int .i64 (ver + 1 + (more : Int))), ([], fun _ => (.agg #[.int .u8 (n : Int), .int .u8 (more : Int), .bool true])), ([], fun _ => .int .i64 (i : Int)), ([10], fun l => l.headD undef), ([11], fun l => l.headD undef), ([], fun _ => undef)])
        (by kernel_rfl) ⟨by kernel_rfl, ⟨FreeV.d_load _ rfl rfl (fun β bs w h hd => (HF.out.later (h.b ((hd 2 12 rfl).2 (.inl (by kernel_rfl))))).g.load),
          FreeV.d_load _ rfl rfl (fun β bs w h hd => load_3 (HF.out.later (h.b ((hd 2 12 rfl).2 (.inl (by kernel_rfl))))).g.cells.2.1),
          FreeV.d_bin _ rfl rfl (fun _ xo yo w => cmp_add3 xo yo w ⟨rfl, by omega, by omega⟩),
          FreeV.d_load _ rfl rfl (fun β bs w h hd => load_5 (HF.out.later (h.b ((hd 2 12 rfl).2 (.inl (by kernel_rfl))))).q1),
          FreeV.d_conv _ rfl rfl (fun β bs w h hd => conv_53 hm w),
          FreeV.d_bin _ rfl rfl (fun _ xo yo w => cmp_add3 xo yo w ⟨rfl, by omega, by omega⟩),
          FreeV.d_load _ rfl rfl (fun β bs w h hd => load_39 (HF.out.later (h.b ((hd 2 12 rfl).2 (.inl (by kernel_rfl))))).q0 (HF.out.later (h.b ((hd 2 12 rfl).2 (.inl (by kernel_rfl))))).q1 (HF.out.later (h.b ((hd 2 12 rfl).2 (.inl (by kernel_rfl))))).q2),
          FreeV.d_get2 _ rfl rfl enter_48 0 rfl (fun β bs w h hd => gmid_chg h hn hi ((hd 1 11 rfl).2 (.inl (by kernel_rfl))) ((hd 2 12 rfl).2 (.inl (by kernel_rfl)))),
          FreeV.d_get3 _ rfl rfl enter_49 1 rfl (fun β bs w h hd => gmid_pub h ((hd 0 10 rfl).1 (by kernel_rfl)) ((hd 2 12 rfl).2 (.inl (by kernel_rfl)))),
          FreeV.d_store _ rfl rfl 2 rfl (fun β bs w h hd => gmid_store HF.out.g h ((hd 1 11 rfl).1 (by kernel_rfl)) ((hd 2 12 rfl).2 (.inr rfl))),
          trivial⟩,
          fun β => by kernel_rfl, fun β => by kernel_rfl, by kernel_rfl, fun β => by kernel_rfl, by kernel_rfl⟩ gmid_start (fun β => Free.from_ 12 [((Wg.mk cells ver bf true wait).v ⟨ca, cc, wa, wc⟩), .pointer (some ⟨w.heap.size, 1, none⟩), .int .i64 ver, .int .i64 (ver + 1), .pointer (some ⟨w.heap.size + 1, 1, none⟩), .int .u8 (more : Int), .int .i64 (more : Int), .int .i64 (ver + 1 + (more : Int)), (.agg #[.int .u8 (n : Int), .int .u8 (more : Int), .bool true]), .int .i64 (i : Int), (β 10), (β 11)]) (fun β => by kernel_rfl) ?_
      intro β w4 h4
      obtain ⟨a, c, W0, hb0, hr0, hw4⟩ := h4.a2 rfl
      clear h4
      generalize β 10 = v10
      generalize β 11 = v11
      rw [Free.puts_from _ _ _ (Nat.le_of_ble_eq_true rfl)]
      simp only [List.take_succ_cons, List.take_zero, List.drop_succ_cons, List.drop_zero, List.cons_append, List.nil_append, List.length_cons, List.length_nil, Nat.reduceAdd]
      have HY : Hid (∃ (y : Wg) (q : Ws), Fl P w n more true y q w4 ∧ y.Fit ∧ Wg.foll ⟨cells, ver, bf, true, wait⟩ n (more : Int) true i = y) := by
        refine ⟨(Wg.mk cells ver bf true wait).pub (ver + 1 + (more : Int)) (chg n i), ⟨ca, cc, a, c⟩, ?_, HFIT.out.pub _ _ _, rfl⟩
        rw [hw4]
        have h1 := HF.out.later hb0
        have hl := HF.out.z.lt
        refine h1.put ⟨h1.ws.c, ?_, h1.ws.cc⟩
        rcases hr0 with e | ⟨g, e, h2, h3, h4⟩
        · exact .inl e
        · exact .inr ⟨g, e, ⟨hP.out g (by have := HF.out.below.size; omega), by omega, by omega, by omega⟩, h3, h4⟩
      clear hb0 hr0 hw4 HF
      obtain ⟨y, q, F4, hy, ey⟩ := HY.out
      have H4 := Lib.hid F4
      have HY2 := Lib.hid (⟨hy, ey⟩ : _ ∧ _)
      clear HY hy ey
      obtain ⟨yc, yv, yb, yd, yw⟩ := y
      obtain ⟨ya, yn, yp, yq⟩ := q
      have qq := F4.q2
      obtain ⟨e0, e1, e2, e3, e4⟩ := F4.g.cells
      have ef := F4.g.fz
      simp only at e0 e1 e2 e3 e4
      obtain ⟨z0, z1, z2, z3, z4⟩ := F4.z.cells
      have zf := F4.z.fz
      have hsz := F4.z.lt
      simp only [gz, sz0, List.length_nil] at z0 z1 z2 z3 z4
      have HE : Hid (∃ s', Ending.returned (Wg.v ⟨yc, yv, yb, yd, yw⟩ ⟨ya, yn, yp, yq⟩) = .returned ((Wg.foll ⟨cells, ver, bf, true, wait⟩ n (more : Int) true i).v s') ∧ WIsP P (gput w4 (w.heap.size + 2) ⟨yc, yv, yb, yd, yw⟩ ⟨ya, yn, yp, yq⟩) (Wg.foll ⟨cells, ver, bf, true, wait⟩ n (more : Int) true i) s' ∧ Below w.heap.size w (gput w4 (w.heap.size + 2) ⟨yc, yv, yb, yd, yw⟩ ⟨ya, yn, yp, yq⟩)) := by
        have hb := gput_but w4 (w.heap.size + 2) ⟨yc, yv, yb, yd, yw⟩ ⟨ya, yn, yp, yq⟩
        have hbl := F4.below
        rw [HY2.out.2]
        exact ⟨_, rfl, (F4.ws.same hb.size fun g hg hl => hb.block g hl hg.2.2.2).imp fun g hg _ => hg.1, ⟨hb.os.trans hbl.os, hb.tape.trans hbl.tape, hb.output.trans hbl.output, Nat.le_trans hbl.size hb.size, fun k (hk : k < w.heap.size) => (hb.block k (by omega) (by omega)).trans (hbl.block k hk)⟩⟩
      have HL : Hid ((loadVar 32 ⟨w.heap.size + 2, 0, none⟩).run Tryd.prog (gput w4 (w.heap.size + 2) ⟨yc, yv, yb, yd, yw⟩ ⟨ya, yn, yp, yq⟩) = .ok (Wg.v ⟨yc, yv, yb, yd, yw⟩ ⟨ya, yn, yp, yq⟩) (gput w4 (w.heap.size + 2) ⟨yc, yv, yb, yd, yw⟩ ⟨ya, yn, yp, yq⟩)) := (F4.z.put _ _).loadVar
      clear F4
      go_wp2_with fail
      exact bodyPost_ret (results_cell1 Tryd.results14 rfl HL.out) rfl HE.out
    | false =>
      refine FreeV.region_puts (S := GMid w1 w.heap.size (Wg.mk cells ver bf true wait) ⟨ca, cc, wa, wc⟩ (ver + 1 + (more : Int)) (chg n i)) (effs := [10, 11, 12])
        (tab := [⟨0, fun _ => [.pointer (some ⟨w.heap.size, 0, none⟩)], fun _ => ((Wg.mk cells ver bf true wait).v ⟨ca, cc, wa, wc⟩), .read⟩,
          ⟨2, fun _ => [.pointer (some ⟨w.heap.size, 1, none⟩)], fun _ => .int .i64 ver, .read⟩,
          ⟨3, fun _ => [.int .i64 ver, .int .i64 1], fun _ => .int .i64 (ver + 1), .pure⟩,
          ⟨5, fun _ => [.pointer (some ⟨w.heap.size + 1, 1, none⟩)], fun _ => .int .u8 (more : Int), .read⟩,
          ⟨6, fun _ => [.int .u8 (more : Int)], fun _ => .int .i64 (more : Int), .read⟩,
          ⟨7, fun _ => [.int .i64 (ver + 1), .int .i64 (more : Int)], fun _ => .int .i64 (ver + 1 + (more : Int)), .pure⟩,
          ⟨8, fun _ => [.pointer (some ⟨w.heap.size + 1, 0, none⟩)], fun _ => (.agg #[.int .u8 (n : Int), .int .u8 (more : Int), .bool false]), .read⟩,
          ⟨10, fun _ => [.func (.func 48) #[] #[], (.agg #[.int .u8 (n : Int), .int .u8 (more : Int), .bool false]), .int .i64 (i : Int)], fun β => (β 10), .get⟩,
          ⟨11, fun β => [.func (.func 49) #[] #[], ((Wg.mk cells ver bf true wait).v ⟨ca, cc, wa, wc⟩), .int .i64 (ver + 1 + (more : Int)), (β 10)], fun β => (β 11), .get⟩,
          ⟨12, fun β => [.pointer (some ⟨w.heap.size, 0, none⟩), (β 11)], fun _ => undef, .put⟩])
        (vs := [([], fun _ => ((Wg.mk cells ver bf true wait).v ⟨ca, cc, wa, wc⟩)), ([], fun _ => .pointer (some ⟨w.heap.size, 1, none⟩)), ([], fun _ => .int .i64 ver), ([], fun _ => .int .i64 (ver + 1)), ([], fun _ => .pointer (some ⟨w.heap.size + 1, 1, none⟩)), ([], fun _ => .int .u8 (more : Int)), ([], fun _ => .int .i64 (more : Int)), ([], fun _ => .int .i64 (ver + 1 + (more : Int))), ([], fun _ => (.agg #[.int .u8 (n : Int), .int .u8 (more : Int), .bool false])), ([], fun _ => .int .i64 (i : Int)), ([10], fun l => l.headD undef), ([11], fun l => l.headD undef), ([], fun _ => undef)])
        (by kernel_rfl) ⟨by kernel_rfl, ⟨FreeV.d_load _ rfl rfl (fun β bs w h hd => (HF.out.later (h.b ((hd 2 12 rfl).2 (.inl (by kernel_rfl))))).g.load),
          FreeV.d_load _ rfl rfl (fun β bs w h hd => load_3 (HF.out.later (h.b ((hd 2 12 rfl).2 (.inl (by kernel_rfl))))).g.cells.2.1),
          FreeV.d_bin _ rfl rfl (fun _ xo yo w => cmp_add3 xo yo w ⟨rfl, by omega, by omega⟩),
          FreeV.d_load _ rfl rfl (fun β bs w h hd => load_5 (HF.out.later (h.b ((hd 2 12 rfl).2 (.inl (by kernel_rfl))))).q1),
          FreeV.d_conv _ rfl rfl (fun β bs w h hd => conv_53 hm w),
          FreeV.d_bin _ rfl rfl (fun _ xo yo w => cmp_add3 xo yo w ⟨rfl, by omega, by omega⟩),
          FreeV.d_load _ rfl rfl (fun β bs w h hd => load_39 (HF.out.later (h.b ((hd 2 12 rfl).2 (.inl (by kernel_rfl))))).q0 (HF.out.later (h.b ((hd 2 12 rfl).2 (.inl (by kernel_rfl))))).q1 (HF.out.later (h.b ((hd 2 12 rfl).2 (.inl (by kernel_rfl))))).q2),
          FreeV.d_get2 _ rfl rfl enter_48 0 rfl (fun β bs w h hd => gmid_chg h hn hi ((hd 1 11 rfl).2 (.inl (by kernel_rfl))) ((hd 2 12 rfl).2 (.inl (by kernel_rfl)))),
          FreeV.d_get3 _ rfl rfl enter_49 1 rfl (fun β bs w h hd => gmid_pub h ((hd 0 10 rfl).1 (by kernel_rfl)) ((hd 2 12 rfl).2 (.inl (by kernel_rfl)))),
          FreeV.d_store _ rfl rfl 2 rfl (fun β bs w h hd => gmid_store HF.out.g h ((hd 1 11 rfl).1 (by kernel_rfl)) ((hd 2 12 rfl).2 (.inr rfl))),
          trivial⟩,
          fun β => by kernel_rfl, fun β => by kernel_rfl, by kernel_rfl, fun β => by kernel_rfl, by kernel_rfl⟩ gmid_start (fun β => Free.from_ 12 [((Wg.mk cells ver bf true wait).v ⟨ca, cc, wa, wc⟩), .pointer (some ⟨w.heap.size, 1, none⟩), .int .i64 ver, .int .i64 (ver + 1), .pointer (some ⟨w.heap.size + 1, 1, none⟩), .int .u8 (more : Int), .int .i64 (more : Int), .int .i64 (ver + 1 + (more : Int)), (.agg #[.int .u8 (n : Int), .int .u8 (more : Int), .bool false]), .int .i64 (i : Int), (β 10), (β 11)]) (fun β => by kernel_rfl) ?_
      intro β w4 h4
      obtain ⟨a, c, W0, hb0, hr0, hw4⟩ := h4.a2 rfl
      clear h4
      generalize β 10 = v10
      generalize β 11 = v11
      rw [Free.puts_from _ _ _ (Nat.le_of_ble_eq_true rfl)]
      simp only [List.take_succ_cons, List.take_zero, List.drop_succ_cons, List.drop_zero, List.cons_append, List.nil_append, List.length_cons, List.length_nil, Nat.reduceAdd]
      have HY : Hid (∃ (y : Wg) (q : Ws), Fl P w n more false y q w4 ∧ y.Fit ∧ Wg.foll ⟨cells, ver, bf, true, wait⟩ n (more : Int) false i = y.help) := by
        refine ⟨(Wg.mk cells ver bf true wait).pub (ver + 1 + (more : Int)) (chg n i), ⟨ca, cc, a, c⟩, ?_, HFIT.out.pub _ _ _, rfl⟩
        rw [hw4]
        have h1 := HF.out.later hb0
        have hl := HF.out.z.lt
        refine h1.put ⟨h1.ws.c, ?_, h1.ws.cc⟩
        rcases hr0 with e | ⟨g, e, h2, h3, h4⟩
        · exact .inl e
        · exact .inr ⟨g, e, ⟨hP.out g (by have := HF.out.below.size; omega), by omega, by omega, by omega⟩, h3, h4⟩
      clear hb0 hr0 hw4 HF
      obtain ⟨y, q, F4, hy, ey⟩ := HY.out
      have H4 := Lib.hid F4
      have HY2 := Lib.hid (⟨hy, ey⟩ : _ ∧ _)
      clear HY hy ey
      obtain ⟨yc, yv, yb, yd, yw⟩ := y
      obtain ⟨ya, yn, yp, yq⟩ := q
      have qq := F4.q2
      obtain ⟨e0, e1, e2, e3, e4⟩ := F4.g.cells
      have ef := F4.g.fz
      simp only at e0 e1 e2 e3 e4
      have hh := refhelp_any w4 ⟨yc, yv, yb, yd, yw⟩ ⟨ya, yn, yp, yq⟩ F4.ws.wis (by rw [HY2.out.1.len]; decide) (by rw [HY2.out.1.len]; decide) (Nat.le_trans HY2.out.1.wl (by decide)) (fun p hp => by rw [HY2.out.1.len]; exact HY2.out.1.mem p hp)
      simp only [Wg.v] at hh
      clear F4
      go_wp2_with fail
      refine hh.mono ?_
      rintro e w5 ⟨s5, rfl, hw5, hb5⟩
      obtain ⟨u, hu⟩ : ∃ u, u = Wg.help ⟨yc, yv, yb, yd, yw⟩ := ⟨_, rfl⟩
      rw [← hu] at hw5 ⊢
      have F5 : Fl P w n more false u s5 (gput w5 w.heap.size u s5) := (H4.out.later hb5).put (hw5.wisP fun g hg => ⟨hP.out g (Nat.le_trans H4.out.below.size hg), by have := H4.out.z.lt; omega, by have := H4.out.z.lt; omega, by have := H4.out.z.lt; omega⟩)
      have HV := Lib.hid (H4.out.later hb5).g
      have HU := Lib.hid hu
      obtain ⟨uc, uv, ub, ud, uw⟩ := u
      obtain ⟨ua, un, up, uq⟩ := s5
      obtain ⟨e0, e1, e2, e3, e4⟩ := HV.out.cells
      have ef := HV.out.fz
      simp only at e0 e1 e2 e3 e4
      obtain ⟨w6, hw6⟩ : ∃ W, W = gput w5 w.heap.size ⟨uc, uv, ub, ud, uw⟩ ⟨ua, un, up, uq⟩ := ⟨_, rfl⟩
      rw [← hw6] at F5
      have HG : Hid ((Instr.storeAt 32 (.pointer (some ⟨w.heap.size, 0, none⟩)) (.agg #[.slice ua uc.length un, .int .i64 uv, .int .i64 ub, .bool ud, .slice up uw.length uq])).run Tryd.prog w5 = .ok () w6) := by
        rw [hw6]; exact HV.out.store ⟨uc, uv, ub, ud, uw⟩ ⟨ua, un, up, uq⟩
      have HG2 : Hid (((((w5.setCell ⟨w.heap.size, 0, none⟩ (.slice ua uc.length un)).setCell ⟨w.heap.size, 1, none⟩ (.int .i64 uv)).setCell ⟨w.heap.size, 2, none⟩ (.int .i64 ub)).setCell ⟨w.heap.size, 3, none⟩ (.bool ud)).setCell ⟨w.heap.size, 4, none⟩ (.slice up uw.length uq) = w6) := by rw [hw6]; exact rfl
      clear hh hw5 hb5 qq hu hw6
      simp only [Wg.v]

      obtain ⟨k0, k1, k2, k3, k4⟩ := F5.g.cells
      simp only at k0 k1 k2 k3 k4
      obtain ⟨z0, z1, z2, z3, z4⟩ := F5.z.cells
      have zf := F5.z.fz
      have hsz := F5.z.lt
      simp only [gz, sz0, List.length_nil] at z0 z1 z2 z3 z4
      have HE : Hid (∃ s', Ending.returned (Wg.v ⟨uc, uv, ub, ud, uw⟩ ⟨ua, un, up, uq⟩) = .returned ((Wg.foll ⟨cells, ver, bf, true, wait⟩ n (more : Int) false i).v s') ∧ WIsP P (gput w6 (w.heap.size + 2) ⟨uc, uv, ub, ud, uw⟩ ⟨ua, un, up, uq⟩) (Wg.foll ⟨cells, ver, bf, true, wait⟩ n (more : Int) false i) s' ∧ Below w.heap.size w (gput w6 (w.heap.size + 2) ⟨uc, uv, ub, ud, uw⟩ ⟨ua, un, up, uq⟩)) := by
        have hb := gput_but w6 (w.heap.size + 2) ⟨uc, uv, ub, ud, uw⟩ ⟨ua, un, up, uq⟩
        have hbl := F5.below
        rw [HY2.out.2, ← HU.out]
        exact ⟨_, rfl, (F5.ws.same hb.size fun g hg hl => hb.block g hl hg.2.2.2).imp fun g hg _ => hg.1, ⟨hb.os.trans hbl.os, hb.tape.trans hbl.tape, hb.output.trans hbl.output, Nat.le_trans hbl.size hb.size, fun k (hk : k < w.heap.size) => (hb.block k (by omega) (by omega)).trans (hbl.block k hk)⟩⟩
      have HL : Hid ((loadVar 32 ⟨w.heap.size + 2, 0, none⟩).run Tryd.prog (gput w6 (w.heap.size + 2) ⟨uc, uv, ub, ud, uw⟩ ⟨ua, un, up, uq⟩) = .ok (Wg.v ⟨uc, uv, ub, ud, uw⟩ ⟨ua, un, up, uq⟩) (gput w6 (w.heap.size + 2) ⟨uc, uv, ub, ud, uw⟩ ⟨ua, un, up, uq⟩)) := (F5.z.put _ _).loadVar
      clear F5
      go_wp2_with (first | rw [HG2.out] | fail)
      exact bodyPost_ret (results_cell1 Tryd.results14 rfl HL.out) rfl HE.out
  | false =>
    obtain ⟨xc, huc⟩ : ∃ xc, xc = setAll cells wait := ⟨_, rfl⟩
    have ey : ∀ a b c d, Wg.foll ⟨cells, ver, bf, false, wait⟩ a b c d = Wg.foll ⟨xc, ver, bf, true, []⟩ a b c d := fun a b c d => by rw [huc]; rfl
    have eh : Wg.help ⟨cells, ver, bf, false, wait⟩ = ⟨xc, ver, bf, true, []⟩ := by rw [huc]; rfl
    have hf0 := HFIT.out
    replace HFIT := Lib.hid hf0.help
    rw [eh] at HFIT
    simp only [ey]
    obtain ⟨c0, c1, c2, c3, c4⟩ := F1.g.cells
    have cf := F1.g.fz
    simp only at c0 c1 c2 c3 c4
    have hh := refhelp_any w1 ⟨cells, ver, bf, false, wait⟩ ⟨ca, cc, wa, wc⟩ F1.ws.wis (by rw [hf0.len]; decide) (by rw [hf0.len]; decide) (Nat.le_trans hf0.wl (by decide)) (fun p hp => by rw [hf0.len]; exact hf0.mem p hp)
    rw [eh] at hh
    simp only [Wg.v, List.length_nil] at hh
    have H1 := Lib.hid F1
    clear F1 hf0 ey eh huc
    go_enter Tryd.func14, Tryd.ntmps14
    go_wp2_with (first | rw [HW.out] | fail)
    refine hh.mono ?_
    rintro e w5 ⟨s5, rfl, hw5, hb5⟩
    have F5 : Fl P w n more wt ⟨xc, ver, bf, true, []⟩ s5 (gput w5 w.heap.size ⟨xc, ver, bf, true, []⟩ s5) := (H1.out.later hb5).put (hw5.wisP fun g hg => ⟨hP.out g (Nat.le_trans H1.out.below.size hg), by have := H1.out.z.lt; omega, by have := H1.out.z.lt; omega, by have := H1.out.z.lt; omega⟩)
    have HV := Lib.hid (H1.out.later hb5).g
    obtain ⟨xa, xn, xp, xq⟩ := s5
    obtain ⟨e0, e1, e2, e3, e4⟩ := HV.out.cells
    have ef := HV.out.fz
    simp only at e0 e1 e2 e3 e4
    obtain ⟨w2, hw2⟩ : ∃ W, W = gput w5 w.heap.size ⟨xc, ver, bf, true, []⟩ ⟨xa, xn, xp, xq⟩ := ⟨_, rfl⟩
    rw [← hw2] at F5
    have HG2 : Hid (((((w5.setCell ⟨w.heap.size, 0, none⟩ (.slice xa xc.length xn)).setCell ⟨w.heap.size, 1, none⟩ (.int .i64 ver)).setCell ⟨w.heap.size, 2, none⟩ (.int .i64 bf)).setCell ⟨w.heap.size, 3, none⟩ (.bool true)).setCell ⟨w.heap.size, 4, none⟩ (.slice xp 0 xq) = w2) := by rw [hw2]; exact rfl
    have HF := Lib.hid F5
    obtain ⟨k0, k1, k2, k3, k4⟩ := F5.g.cells
    simp only [List.length_nil] at k0 k1 k2 k3 k4
    clear hh hw5 hb5 hw2 F5 c0 c1 c2 c3 c4 cf
    go_wp2_with (first | rw [HG2.out] | fail)
    clear HW HG2 e0 e1 e2 e3 e4 ef HV
    cases wt with
    | true =>
      refine FreeV.region_puts (S := GMid w2 w.heap.size (Wg.mk xc ver bf true []) ⟨xa, xn, xp, xq⟩ (ver + 1 + (more : Int)) (chg n i)) (effs := [10, 11, 12])
        (tab := [⟨0, fun _ => [.pointer (some ⟨w.heap.size, 0, none⟩)], fun _ => ((Wg.mk xc ver bf true []).v ⟨xa, xn, xp, xq⟩), .read⟩,
          ⟨2, fun _ => [.pointer (some ⟨w.heap.size, 1, none⟩)], fun _ => .int .i64 ver, .read⟩,
          ⟨3, fun _ => [.int .i64 ver, .int .i64 1], fun _ => .int .i64 (ver + 1), .pure⟩,
          ⟨5, fun _ => [.pointer (some ⟨w.heap.size + 1, 1, none⟩)], fun _ => .int .u8 (more : Int), .read⟩,
          ⟨6, fun _ => [.int .u8 (more : Int)], fun _ => .int .i64 (more : Int), .read⟩,
          ⟨7, fun _ => [.int .i64 (ver + 1), .int .i64 (more : Int)], fun _ => .int .i64 (ver + 1 + (more : Int)), .pure⟩,
          ⟨8, fun _ => [.pointer (some ⟨w.heap.size + 1, 0, none⟩)], fun _ => (.agg #[.int .u8 (n : Int), .int .u8 (more : Int), .bool true]), .read⟩,
          ⟨10, fun _ => [.func (.func 48) #[] #[], (.agg #[.int .u8 (n : Int), .int .u8 (more : Int), .bool true]), .int .i64 (i : Int)], fun β => (β 10), .get⟩,
          ⟨11, fun β => [.func (.func 49) #[] #[], ((Wg.mk xc ver bf true []).v ⟨xa, xn, xp, xq⟩), .int .i64 (ver + 1 + (more : Int)), (β 10)], fun β => (β 11), .get⟩,
          ⟨12, fun β => [.pointer (some ⟨w.heap.size, 0, none⟩), (β 11)], fun _ => undef, .put⟩])
        (vs := [([], fun _ => ((Wg.mk xc ver bf true []).v ⟨xa, xn, xp, xq⟩)), ([], fun _ => .pointer (some ⟨w.heap.size, 1, none⟩)), ([], fun _ => .int .i64 ver), ([], fun _ => .int .i64 (ver + 1)), ([], fun _ => .pointer (some ⟨w.heap.size + 1, 1, none⟩)), ([], fun _ => .int .u8 (more : Int)), ([], fun _ => .int .i64 (more : Int)), ([], fun _ => .int .i64 (ver + 1 + (more : Int))), ([], fun _ => (.agg #[.int .u8 (n : Int), .int .u8 (more : Int), .bool true])), ([], fun _ => .int .i64 (i : Int)), ([10], fun l => l.headD undef), ([11], fun l => l.headD undef), ([], fun _ => undef)])
        (by kernel_rfl) ⟨by kernel_rfl, ⟨FreeV.d_load _ rfl rfl (fun β bs w h hd => (HF.out.later (h.b ((hd 2 12 rfl).2 (.inl (by kernel_rfl))))).g.load),
          FreeV.d_load _ rfl rfl (fun β bs w h hd => load_3 (HF.out.later (h.b ((hd 2 12 rfl).2 (.inl (by kernel_rfl))))).g.cells.2.1),
          FreeV.d_bin _ rfl rfl (fun _ xo yo w => cmp_add3 xo yo w ⟨rfl, by omega, by omega⟩),
          FreeV.d_load _ rfl rfl (fun β bs w h hd => load_5 (HF.out.later (h.b ((hd 2 12 rfl).2 (.inl (by kernel_rfl))))).q1),
          FreeV.d_conv _ rfl rfl (fun β bs w h hd => conv_53 hm w),
          FreeV.d_bin _ rfl rfl (fun _ xo yo w => cmp_add3 xo yo w ⟨rfl, by omega, by omega⟩),
          FreeV.d_load _ rfl rfl (fun β bs w h hd => load_39 (HF.out.later (h.b ((hd 2 12 rfl).2 (.inl (by kernel_rfl))))).q0 (HF.out.later (h.b ((hd 2 12 rfl).2 (.inl (by kernel_rfl))))).q1 (HF.out.later (h.b ((hd 2 12 rfl).2 (.inl (by kernel_rfl))))).q2),
          FreeV.d_get2 _ rfl rfl enter_48 0 rfl (fun β bs w h hd => gmid_chg h hn hi ((hd 1 11 rfl).2 (.inl (by kernel_rfl))) ((hd 2 12 rfl).2 (.inl (by kernel_rfl)))),
          FreeV.d_get3 _ rfl rfl enter_49 1 rfl (fun β bs w h hd => gmid_pub h ((hd 0 10 rfl).1 (by kernel_rfl)) ((hd 2 12 rfl).2 (.inl (by kernel_rfl)))),
          FreeV.d_store _ rfl rfl 2 rfl (fun β bs w h hd => gmid_store HF.out.g h ((hd 1 11 rfl).1 (by kernel_rfl)) ((hd 2 12 rfl).2 (.inr rfl))),
          trivial⟩,
          fun β => by kernel_rfl, fun β => by kernel_rfl, by kernel_rfl, fun β => by kernel_rfl, by kernel_rfl⟩ gmid_start (fun β => Free.from_ 12 [((Wg.mk xc ver bf true []).v ⟨xa, xn, xp, xq⟩), .pointer (some ⟨w.heap.size, 1, none⟩), .int .i64 ver, .int .i64 (ver + 1), .pointer (some ⟨w.heap.size + 1, 1, none⟩), .int .u8 (more : Int), .int .i64 (more : Int), .int .i64 (ver + 1 + (more : Int)), (.agg #[.int .u8 (n : Int), .int .u8 (more : Int), .bool true]), .int .i64 (i : Int), (β 10), (β 11)]) (fun β => by kernel_rfl) ?_
      intro β w4 h4
      obtain ⟨a, c, W0, hb0, hr0, hw4⟩ := h4.a2 rfl
      clear h4
      generalize β 10 = v10
      generalize β 11 = v11
      rw [Free.puts_from _ _ _ (Nat.le_of_ble_eq_true rfl)]
      simp only [List.take_succ_cons, List.take_zero, List.drop_succ_cons, List.drop_zero, List.cons_append, List.nil_append, List.length_cons, List.length_nil, Nat.reduceAdd]
      have HY : Hid (∃ (y : Wg) (q : Ws), Fl P w n more true y q w4 ∧ y.Fit ∧ Wg.foll ⟨xc, ver, bf, true, []⟩ n (more : Int) true i = y) := by
        refine ⟨(Wg.mk xc ver bf true []).pub (ver + 1 + (more : Int)) (chg n i), ⟨xa, xn, a, c⟩, ?_, HFIT.out.pub _ _ _, rfl⟩
        rw [hw4]
        have h1 := HF.out.later hb0
        have hl := HF.out.z.lt
        refine h1.put ⟨h1.ws.c, ?_, h1.ws.cc⟩
        rcases hr0 with e | ⟨g, e, h2, h3, h4⟩
        · exact .inl e
        · exact .inr ⟨g, e, ⟨hP.out g (by have := HF.out.below.size; omega), by omega, by omega, by omega⟩, h3, h4⟩
      clear hb0 hr0 hw4 HF
      obtain ⟨y, q, F4, hy, ey⟩ := HY.out
      have H4 := Lib.hid F4
      have HY2 := Lib.hid (⟨hy, ey⟩ : _ ∧ _)
      clear HY hy ey
      obtain ⟨yc, yv, yb, yd, yw⟩ := y
      obtain ⟨ya, yn, yp, yq⟩ := q
      have qq := F4.q2
      obtain ⟨e0, e1, e2, e3, e4⟩ := F4.g.cells
      have ef := F4.g.fz
      simp only at e0 e1 e2 e3 e4
      obtain ⟨z0, z1, z2, z3, z4⟩ := F4.z.cells
      have zf := F4.z.fz
      have hsz := F4.z.lt
      simp only [gz, sz0, List.length_nil] at z0 z1 z2 z3 z4
      have HE : Hid (∃ s', Ending.returned (Wg.v ⟨yc, yv, yb, yd, yw⟩ ⟨ya, yn, yp, yq⟩) = .returned ((Wg.foll ⟨xc, ver, bf, true, []⟩ n (more : Int) true i).v s') ∧ WIsP P (gput w4 (w.heap.size + 2) ⟨yc, yv, yb, yd, yw⟩ ⟨ya, yn, yp, yq⟩) (Wg.foll ⟨xc, ver, bf, true, []⟩ n (more : Int) true i) s' ∧ Below w.heap.size w (gput w4 (w.heap.size + 2) ⟨yc, yv, yb, yd, yw⟩ ⟨ya, yn, yp, yq⟩)) := by
        have hb := gput_but w4 (w.heap.size + 2) ⟨yc, yv, yb, yd, yw⟩ ⟨ya, yn, yp, yq⟩
        have hbl := F4.below
        rw [HY2.out.2]
        exact ⟨_, rfl, (F4.ws.same hb.size fun g hg hl => hb.block g hl hg.2.2.2).imp fun g hg _ => hg.1, ⟨hb.os.trans hbl.os, hb.tape.trans hbl.tape, hb.output.trans hbl.output, Nat.le_trans hbl.size hb.size, fun k (hk : k < w.heap.size) => (hb.block k (by omega) (by omega)).trans (hbl.block k hk)⟩⟩
      have HL : Hid ((loadVar 32 ⟨w.heap.size + 2, 0, none⟩).run Tryd.prog (gput w4 (w.heap.size + 2) ⟨yc, yv, yb, yd, yw⟩ ⟨ya, yn, yp, yq⟩) = .ok (Wg.v ⟨yc, yv, yb, yd, yw⟩ ⟨ya, yn, yp, yq⟩) (gput w4 (w.heap.size + 2) ⟨yc, yv, yb, yd, yw⟩ ⟨ya, yn, yp, yq⟩)) := (F4.z.put _ _).loadVar
      clear F4
      go_wp2_with fail
      exact bodyPost_ret (results_cell1 Tryd.results14 rfl HL.out) rfl HE.out
    | false =>
      refine FreeV.region_puts (S := GMid w2 w.heap.size (Wg.mk xc ver bf true []) ⟨xa, xn, xp, xq⟩ (ver + 1 + (more : Int)) (chg n i)) (effs := [10, 11, 12])
        (tab := [⟨0, fun _ => [.pointer (some ⟨w.heap.size, 0, none⟩)], fun _ => ((Wg.mk xc ver bf true []).v ⟨xa, xn, xp, xq⟩), .read⟩,
          ⟨2, fun _ => [.pointer (some ⟨w.heap.size, 1, none⟩)], fun _ => .int .i64 ver, .read⟩,
          ⟨3, fun _ => [.int .i64 ver, .int .i64 1], fun _ => .int .i64 (ver + 1), .pure⟩,
          ⟨5, fun _ => [.pointer (some ⟨w.heap.size + 1, 1, none⟩)], fun _ => .int .u8 (more : Int), .read⟩,
          ⟨6, fun _ => [.int .u8 (more : Int)], fun _ => .int .i64 (more : Int), .read⟩,
          ⟨7, fun _ => [.int .i64 (ver + 1), .int .i64 (more : Int)], fun _ => .int .i64 (ver + 1 + (more : Int)), .pure⟩,
          ⟨8, fun _ => [.pointer (some ⟨w.heap.size + 1, 0, none⟩)], fun _ => (.agg #[.int .u8 (n : Int), .int .u8 (more : Int), .bool false]), .read⟩,
          ⟨10, fun _ => [.func (.func 48) #[] #[], (.agg #[.int .u8 (n : Int), .int .u8 (more : Int), .bool false]), .int .i64 (i : Int)], fun β => (β 10), .get⟩,
          ⟨11, fun β => [.func (.func 49) #[] #[], ((Wg.mk xc ver bf true []).v ⟨xa, xn, xp, xq⟩), .int .i64 (ver + 1 + (more : Int)), (β 10)], fun β => (β 11), .get⟩,
          ⟨12, fun β => [.pointer (some ⟨w.heap.size, 0, none⟩), (β 11)], fun _ => undef, .put⟩])
        (vs := [([], fun _ => ((Wg.mk xc ver bf true []).v ⟨xa, xn, xp, xq⟩)), ([], fun _ => .pointer (some ⟨w.heap.size, 1, none⟩)), ([], fun _ => .int .i64 ver), ([], fun _ => .int .i64 (ver + 1)), ([], fun _ => .pointer (some ⟨w.heap.size + 1, 1, none⟩)), ([], fun _ => .int .u8 (more : Int)), ([], fun _ => .int .i64 (more : Int)), ([], fun _ => .int .i64 (ver + 1 + (more : Int))), ([], fun _ => (.agg #[.int .u8 (n : Int), .int .u8 (more : Int), .bool false])), ([], fun _ => .int .i64 (i : Int)), ([10], fun l => l.headD undef), ([11], fun l => l.headD undef), ([], fun _ => undef)])
        (by kernel_rfl) ⟨by kernel_rfl, ⟨FreeV.d_load _ rfl rfl (fun β bs w h hd => (HF.out.later (h.b ((hd 2 12 rfl).2 (.inl (by kernel_rfl))))).g.load),
          FreeV.d_load _ rfl rfl (fun β bs w h hd => load_3 (HF.out.later (h.b ((hd 2 12 rfl).2 (.inl (by kernel_rfl))))).g.cells.2.1),
          FreeV.d_bin _ rfl rfl (fun _ xo yo w => cmp_add3 xo yo w ⟨rfl, by omega, by omega⟩),
          FreeV.d_load _ rfl rfl (fun β bs w h hd => load_5 (HF.out.later (h.b ((hd 2 12 rfl).2 (.inl (by kernel_rfl))))).q1),
          FreeV.d_conv _ rfl rfl (fun β bs w h hd => conv_53 hm w),
          FreeV.d_bin _ rfl rfl (fun _ xo yo w => cmp_add3 xo yo w ⟨rfl, by omega, by omega⟩),
          FreeV.d_load _ rfl rfl (fun β bs w h hd => load_39 (HF.out.later (h.b ((hd 2 12 rfl).2 (.inl (by kernel_rfl))))).q0 (HF.out.later (h.b ((hd 2 12 rfl).2 (.inl (by kernel_rfl))))).q1 (HF.out.later (h.b ((hd 2 12 rfl).2 (.inl (by kernel_rfl))))).q2),
          FreeV.d_get2 _ rfl rfl enter_48 0 rfl (fun β bs w h hd => gmid_chg h hn hi ((hd 1 11 rfl).2 (.inl (by kernel_rfl))) ((hd 2 12 rfl).2 (.inl (by kernel_rfl)))),
          FreeV.d_get3 _ rfl rfl enter_49 1 rfl (fun β bs w h hd => gmid_pub h ((hd 0 10 rfl).1 (by kernel_rfl)) ((hd 2 12 rfl).2 (.inl (by kernel_rfl)))),
          FreeV.d_store _ rfl rfl 2 rfl (fun β bs w h hd => gmid_store HF.out.g h ((hd 1 11 rfl).1 (by kernel_rfl)) ((hd 2 12 rfl).2 (.inr rfl))),
          trivial⟩,
          fun β => by kernel_rfl, fun β => by kernel_rfl, by kernel_rfl, fun β => by kernel_rfl, by kernel_rfl⟩ gmid_start (fun β => Free.from_ 12 [((Wg.mk xc ver bf true []).v ⟨xa, xn, xp, xq⟩), .pointer (some ⟨w.heap.size, 1, none⟩), .int .i64 ver, .int .i64 (ver + 1), .pointer (some ⟨w.heap.size + 1, 1, none⟩), .int .u8 (more : Int), .int .i64 (more : Int), .int .i64 (ver + 1 + (more : Int)), (.agg #[.int .u8 (n : Int), .int .u8 (more : Int), .bool false]), .int .i64 (i : Int), (β 10), (β 11)]) (fun β => by kernel_rfl) ?_
      intro β w4 h4
      obtain ⟨a, c, W0, hb0, hr0, hw4⟩ := h4.a2 rfl
      clear h4
      generalize β 10 = v10
      generalize β 11 = v11
      rw [Free.puts_from _ _ _ (Nat.le_of_ble_eq_true rfl)]
      simp only [List.take_succ_cons, List.take_zero, List.drop_succ_cons, List.drop_zero, List.cons_append, List.nil_append, List.length_cons, List.length_nil, Nat.reduceAdd]
      have HY : Hid (∃ (y : Wg) (q : Ws), Fl P w n more false y q w4 ∧ y.Fit ∧ Wg.foll ⟨xc, ver, bf, true, []⟩ n (more : Int) false i = y.help) := by
        refine ⟨(Wg.mk xc ver bf true []).pub (ver + 1 + (more : Int)) (chg n i), ⟨xa, xn, a, c⟩, ?_, HFIT.out.pub _ _ _, rfl⟩
        rw [hw4]
        have h1 := HF.out.later hb0
        have hl := HF.out.z.lt
        refine h1.put ⟨h1.ws.c, ?_, h1.ws.cc⟩
        rcases hr0 with e | ⟨g, e, h2, h3, h4⟩
        · exact .inl e
        · exact .inr ⟨g, e, ⟨hP.out g (by have := HF.out.below.size; omega), by omega, by omega, by omega⟩, h3, h4⟩
      clear hb0 hr0 hw4 HF
      obtain ⟨y, q, F4, hy, ey⟩ := HY.out
      have H4 := Lib.hid F4
      have HY2 := Lib.hid (⟨hy, ey⟩ : _ ∧ _)
      clear HY hy ey
      obtain ⟨yc, yv, yb, yd, yw⟩ := y
      obtain ⟨ya, yn, yp, yq⟩ := q
      have qq := F4.q2
      obtain ⟨e0, e1, e2, e3, e4⟩ := F4.g.cells
      have ef := F4.g.fz
      simp only at e0 e1 e2 e3 e4
      have hh := refhelp_any w4 ⟨yc, yv, yb, yd, yw⟩ ⟨ya, yn, yp, yq⟩ F4.ws.wis (by rw [HY2.out.1.len]; decide) (by rw [HY2.out.1.len]; decide) (Nat.le_trans HY2.out.1.wl (by decide)) (fun p hp => by rw [HY2.out.1.len]; exact HY2.out.1.mem p hp)
      simp only [Wg.v] at hh
      clear F4
      go_wp2_with fail
      refine hh.mono ?_
      rintro e w5 ⟨s5, rfl, hw5, hb5⟩
      obtain ⟨u, hu⟩ : ∃ u, u = Wg.help ⟨yc, yv, yb, yd, yw⟩ := ⟨_, rfl⟩
      rw [← hu] at hw5 ⊢
      have F5 : Fl P w n more false u s5 (gput w5 w.heap.size u s5) := (H4.out.later hb5).put (hw5.wisP fun g hg => ⟨hP.out g (Nat.le_trans H4.out.below.size hg), by have := H4.out.z.lt; omega, by have := H4.out.z.lt; omega, by have := H4.out.z.lt; omega⟩)
      have HV := Lib.hid (H4.out.later hb5).g
      have HU := Lib.hid hu
      obtain ⟨uc, uv, ub, ud, uw⟩ := u
      obtain ⟨ua, un, up, uq⟩ := s5
      obtain ⟨e0, e1, e2, e3, e4⟩ := HV.out.cells
      have ef := HV.out.fz
      simp only at e0 e1 e2 e3 e4
      obtain ⟨w6, hw6⟩ : ∃ W, W = gput w5 w.heap.size ⟨uc, uv, ub, ud, uw⟩ ⟨ua, un, up, uq⟩ := ⟨_, rfl⟩
      rw [← hw6] at F5
      have HG : Hid ((Instr.storeAt 32 (.pointer (some ⟨w.heap.size, 0, none⟩)) (.agg #[.slice ua uc.length un, .int .i64 uv, .int .i64 ub, .bool ud, .slice up uw.length uq])).run Tryd.prog w5 = .ok () w6) := by
        rw [hw6]; exact HV.out.store ⟨uc, uv, ub, ud, uw⟩ ⟨ua, un, up, uq⟩
      have HG2 : Hid (((((w5.setCell ⟨w.heap.size, 0, none⟩ (.slice ua uc.length un)).setCell ⟨w.heap.size, 1, none⟩ (.int .i64 uv)).setCell ⟨w.heap.size, 2, none⟩ (.int .i64 ub)).setCell ⟨w.heap.size, 3, none⟩ (.bool ud)).setCell ⟨w.heap.size, 4, none⟩ (.slice up uw.length uq) = w6) := by rw [hw6]; exact rfl
      clear hh hw5 hb5 qq hu hw6
      simp only [Wg.v]

      obtain ⟨k0, k1, k2, k3, k4⟩ := F5.g.cells
      simp only at k0 k1 k2 k3 k4
      obtain ⟨z0, z1, z2, z3, z4⟩ := F5.z.cells
      have zf := F5.z.fz
      have hsz := F5.z.lt
      simp only [gz, sz0, List.length_nil] at z0 z1 z2 z3 z4
      have HE : Hid (∃ s', Ending.returned (Wg.v ⟨uc, uv, ub, ud, uw⟩ ⟨ua, un, up, uq⟩) = .returned ((Wg.foll ⟨xc, ver, bf, true, []⟩ n (more : Int) false i).v s') ∧ WIsP P (gput w6 (w.heap.size + 2) ⟨uc, uv, ub, ud, uw⟩ ⟨ua, un, up, uq⟩) (Wg.foll ⟨xc, ver, bf, true, []⟩ n (more : Int) false i) s' ∧ Below w.heap.size w (gput w6 (w.heap.size + 2) ⟨uc, uv, ub, ud, uw⟩ ⟨ua, un, up, uq⟩)) := by
        have hb := gput_but w6 (w.heap.size + 2) ⟨uc, uv, ub, ud, uw⟩ ⟨ua, un, up, uq⟩
        have hbl := F5.below
        rw [HY2.out.2, ← HU.out]
        exact ⟨_, rfl, (F5.ws.same hb.size fun g hg hl => hb.block g hl hg.2.2.2).imp fun g hg _ => hg.1, ⟨hb.os.trans hbl.os, hb.tape.trans hbl.tape, hb.output.trans hbl.output, Nat.le_trans hbl.size hb.size, fun k (hk : k < w.heap.size) => (hb.block k (by omega) (by omega)).trans (hbl.block k hk)⟩⟩
      have HL : Hid ((loadVar 32 ⟨w.heap.size + 2, 0, none⟩).run Tryd.prog (gput w6 (w.heap.size + 2) ⟨uc, uv, ub, ud, uw⟩ ⟨ua, un, up, uq⟩) = .ok (Wg.v ⟨uc, uv, ub, ud, uw⟩ ⟨ua, un, up, uq⟩) (gput w6 (w.heap.size + 2) ⟨uc, uv, ub, ud, uw⟩ ⟨ua, un, up, uq⟩)) := (F5.z.put _ _).loadVar
      clear F5
      go_wp2_with (first | rw [HG2.out] | fail)
      exact bodyPost_ret (results_cell1 Tryd.results14 rfl HL.out) rfl HE.out
end Go.Proofs.YteiikkkcjpfapaaDoor
