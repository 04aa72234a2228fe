/- A row of rounds, read as data: what stands in memory. No condition of its own. -/
import Derived.Test.YteiikkkcjpfapaaDoorOpen
import Derived.Test.YteiikkkcjpfapaaDoorRd
namespace Go.Proofs.YteiikkkcjpfapaaDoor
open Go.RowKit Go.ChangeShapes Go.WideShapes Go.ChangeAt Go.Deep
set_option maxRecDepth 100000

/-- A round. -/
structure Rnd where
  n : Nat
  more : Nat
  wt : Bool
def RndAt (w : World) (b o : Nat) (x : Rnd) : Prop := w.cell? ⟨b, o, none⟩ = some (.int .u8 (x.n : Int)) ∧ w.cell? ⟨b, o + 1, none⟩ = some (.int .u8 (x.more : Int)) ∧ w.cell? ⟨b, o + 2, none⟩ = some (.bool x.wt)
/-- Rounds that stand in memory. -/
def Rnds (w : World) (a : Option Addr) (l : List Rnd) : Prop :=
  l = [] ∨ ∃ b off, a = some ⟨b, off, none⟩ ∧ b < w.heap.size ∧ ∀ (k : Nat) (x : Rnd), l[k]? = some x → RndAt w b (off + k * 3) x
def RndsOk (l : List Rnd) : Prop := ∀ x ∈ l, x.n ≤ 255 ∧ x.more ≤ 255
section
variable {H : Type} {enc : TypeId × Value → H} {w : World} {base : Nat} {held : Bool}
theorem rcells39 : Tryd.prog.cellsOf 39 = 3 := by kernel_rfl
theorem rcells4 : Tryd.prog.cellsOf 4 = 1 := by kernel_rfl
theorem rcells5 : Tryd.prog.cellsOf 5 = 1 := by kernel_rfl
theorem rwf8 {n : Int} (h : (Lit.int .u8 n).wf = true) : 0 ≤ n ∧ n ≤ 255 := by
  simp [Lit.wf, IntKind.min, IntKind.max, IntKind.signed, IntKind.bits] at h
  exact ⟨by omega, by omega⟩
theorem open_round {spare : Nat → Bool} {n : Nat} {cs : List Value} {x : DataW H × List MemPlace} (h : DataW.trod enc Tryd.prog w base spare held n 39 cs = some x) :
    ∃ e : Rnd, cs = [.int .u8 (e.n : Int), .int .u8 (e.more : Int), .bool e.wt] ∧ e.n ≤ 255 ∧ e.more ≤ 255 := by
  obtain ⟨ys, n', _, _, hlen, hyl, hf⟩ := DataW.trod_struct Tryd.underlying39 h
  rw [rcells39] at hlen
  match cs, hlen with
  | [c0, c1, c2], _ =>
    match ys, hyl with
    | [y0, y1, y2], _ =>
      have h0 : DataW.trod enc Tryd.prog w base spare held n' 5 (([c0, c1, c2].drop 0).take (Tryd.prog.cellsOf 5)) = [y0, y1, y2][0]? := hf 0 _ rfl
      have h1 : DataW.trod enc Tryd.prog w base spare held n' 5 (([c0, c1, c2].drop 1).take (Tryd.prog.cellsOf 5)) = [y0, y1, y2][1]? := hf 1 _ rfl
      have h2 : DataW.trod enc Tryd.prog w base spare held n' 4 (([c0, c1, c2].drop 2).take (Tryd.prog.cellsOf 4)) = [y0, y1, y2][2]? := hf 2 _ rfl
      rw [rcells5] at h0 h1
      rw [rcells4] at h2
      obtain ⟨a, e0, _, wa⟩ := DataW.trod_int Tryd.underlying5 (show DataW.trod enc Tryd.prog w base spare held n' 5 [c0] = some y0 from h0)
      obtain ⟨p, e1, _, wp⟩ := DataW.trod_int Tryd.underlying5 (show DataW.trod enc Tryd.prog w base spare held n' 5 [c1] = some y1 from h1)
      obtain ⟨g, e2, _⟩ := DataW.trod_bool Tryd.underlying4 (show DataW.trod enc Tryd.prog w base spare held n' 4 [c2] = some y2 from h2)
      simp only [List.cons.injEq, and_true] at e0 e1 e2
      have ha := rwf8 wa
      have hp := rwf8 wp
      exact ⟨⟨a.toNat, p.toNat, g⟩, by rw [e0, e1, e2, show ((a.toNat : Nat) : Int) = a by omega, show ((p.toNat : Nat) : Int) = p by omega], by simp only; omega, by simp only; omega⟩
theorem open_rounds {a0 : Option Addr} {len cap : Nat} {d : DataW H} {p : List MemPlace} (h : DataW.Trod enc Tryd.prog w base (fun _ => true) held 22 (.slice a0 len cap) d p) : ∃ l : List Rnd, l.length = len ∧ Rnds w a0 l ∧ RndsOk l := by
  obtain ⟨fuel, h⟩ := h
  rcases open_slice Tryd.underlying22 h with ⟨hcs, _⟩ | ⟨a, len', cap', m, n, D, Pl, hcs, _, hl, _, hm, _, hi⟩
  · simp [Value.cells] at hcs
    obtain ⟨rfl, rfl, rfl⟩ := hcs
    exact ⟨[], rfl, .inl rfl, fun x hx => by cases hx⟩
  · simp [Value.cells] at hcs
    obtain ⟨rfl, rfl, rfl⟩ := hcs
    by_cases h0 : len = 0
    · subst h0
      exact ⟨[], rfl, .inl rfl, fun x hx => by cases hx⟩
    · have hmc : m = cap := by simpa using hm
      have hel : ∀ i : Nat, ∃ e : Rnd, i < len → (w.cell? (a.add (i * 3)) = some (.int .u8 (e.n : Int)) ∧ w.cell? (a.add (i * 3 + 1)) = some (.int .u8 (e.more : Int)) ∧ w.cell? (a.add (i * 3 + 2)) = some (.bool e.wt)) ∧ e.n ≤ 255 ∧ e.more ≤ 255 := by
        intro i
        by_cases hil : i < len
        · obtain ⟨cs', hc, ht⟩ := hi i (by omega)
          rw [rcells39] at hc
          obtain ⟨e, rfl, hok⟩ := open_round ht
          obtain ⟨_, _, hat⟩ := World.cells?_some hc
          refine ⟨e, fun _ => ⟨⟨?_, ?_, ?_⟩, hok⟩⟩
          · have := hat 0 (by omega)
            rw [Go.Deep.add_add] at this
            exact this
          · have := hat 1 (by omega)
            rw [Go.Deep.add_add] at this
            exact this
          · have := hat 2 (by omega)
            rw [Go.Deep.add_add] at this
            exact this
        · exact ⟨⟨0, 0, false⟩, fun k => absurd k hil⟩
      obtain ⟨f, hf⟩ := Classical.axiomOfChoice hel
      obtain ⟨b, off, spot⟩ := a
      have hc0 := (hf 0 (by omega)).1.1
      have hspot : spot = none := by simpa [Addr.add] using World.cell?_spot hc0
      subst hspot
      have ad : ∀ j, (⟨b, off, none⟩ : Addr).add j = ⟨b, off + j, none⟩ := fun j => by simp [Addr.add]
      have hlen : ((List.range len).map f).length = len := by simp
      refine ⟨(List.range len).map f, hlen, .inr ⟨b, off, rfl, World.block_lt_of_cell? w _ hc0, fun k x hx => ?_⟩, fun x hx => ?_⟩
      · have hk' : k < len := by rw [← hlen]; exact (List.getElem?_eq_some_iff.1 hx).1
        obtain ⟨⟨e1, e2, e3⟩, _⟩ := hf k hk'
        rw [ad] at e1 e2 e3
        simp [List.getElem?_range hk'] at hx
        subst hx
        exact ⟨e1, e2, e3⟩
      · rw [List.mem_map] at hx
        obtain ⟨i, hi', rfl⟩ := hx
        exact (hf i (by simpa using hi')).2
end
end Go.Proofs.YteiikkkcjpfapaaDoor
/- What the first law starts from: memory behind Lay, and the reference. No condition. -/
namespace Go.Proofs.YteiikkkcjpfapaaDoor
open Go.RowKit Go.Op
set_option maxRecDepth 100000

def m8 : M := (layS (initP.go (M.new 300)).2 8).1
def hs8 : List Int := [4, 5, 6, 7, 8, 9, 10, 11]
theorem hs8_is : (layS (initP.go (M.new 300)).2 8).2 = hs8 := by decide +kernel
theorem lay_facts : (initP.go (M.new 300)).1 = (3, 0) ∧ (initP.go (M.new 300)).2.count ≤ 1000 ∧ ∀ i : Nat, i < 8 → ((layS (initP.go (M.new 300)).2 i).1.alloc (.word i)).2.2 = 0 := by
  refine ⟨by decide +kernel, by decide +kernel, by decide +kernel⟩
theorem m8_all : (m8.cells.all fun x => decide (0 ≤ x.gen ∧ x.gen ≤ m8.count)) = true ∧ m8.live = 11 ∧ m8.count = 11 ∧ m8.cells.length = 300 ∧ (m8.cells.countP fun x => x.held.busy) = 11 := by
  refine ⟨by kernel_rfl, by kernel_rfl, by kernel_rfl, by kernel_rfl, by kernel_rfl⟩
theorem fine0 : Fine m8 11 11 := by
  obtain ⟨h1, h2, h3, h4, h5⟩ := m8_all
  refine ⟨⟨fun i x hx => ?_, by rw [h2, h5]; rfl, by rw [h3]; decide⟩, h4, by rw [h3]; decide, h2⟩
  have := List.all_eq_true.1 h1 x (List.mem_of_getElem? hx)
  simpa using this
theorem look_tab : m8.look 3 = some (.word 2) ∧ m8.look 2 = some (.desc ⟨0, 0, 1, [], none, 0, 0⟩) ∧ m8.look 1 = some (.word 1) ∧ m8.look 4 = some (.word 0) ∧ m8.look 5 = some (.word 1) ∧ m8.look 6 = some (.word 2) ∧ m8.look 7 = some (.word 3) ∧ m8.look 8 = some (.word 4) ∧ m8.look 9 = some (.word 5) ∧ m8.look 10 = some (.word 6) ∧ m8.look 11 = some (.word 7) := by
  refine ⟨by kernel_rfl, by kernel_rfl, by kernel_rfl, by kernel_rfl, by kernel_rfl, by kernel_rfl, by kernel_rfl, by kernel_rfl, by kernel_rfl, by kernel_rfl, by kernel_rfl⟩
theorem rel0 : Rel m8 3 hs8 wg0 2 ⟨0, 0, 1, [], none, 0, 0⟩ := by
  obtain ⟨h1, h2, h3, q0, q1, q2, q3, q4, q5, q6, q7⟩ := look_tab
  refine ⟨h1, h2, h3, rfl, rfl, fun k h n e1 e2 => ?_, fun e => (by cases e), by decide, by decide, rfl, ⟨by decide, by decide, fun p hp => by simp [wg0] at hp⟩, by simp [wg0]⟩
  match k, e1, e2 with
  | 0, e1, e2 => cases e1; cases e2; exact q0
  | 1, e1, e2 => cases e1; cases e2; exact q1
  | 2, e1, e2 => cases e1; cases e2; exact q2
  | 3, e1, e2 => cases e1; cases e2; exact q3
  | 4, e1, e2 => cases e1; cases e2; exact q4
  | 5, e1, e2 => cases e1; cases e2; exact q5
  | 6, e1, e2 => cases e1; cases e2; exact q6
  | 7, e1, e2 => cases e1; cases e2; exact q7
  | k + 8, e1, _ => simp [hs8] at e1
theorem go_version {m : M} {top : Int} {hs : List Int} {x : Wg} {hh : Int} {d : Ds} (h : Rel m top hs x hh d) : (versionP top).go m = ((if x.done = true then x.ver else x.bf, 0), m.more 3) := by
  simp only [versionP, Pr.go_bind, go_last h, Pr.go, h.ver, h.bf]
theorem foll_ver (x : Wg) (n : Nat) (more : Int) (wt : Bool) (i : Nat) : (x.foll n more wt i).ver = x.ver + 1 + more := by
  unfold Wg.foll
  split <;> rfl
end Go.Proofs.YteiikkkcjpfapaaDoor
/- The first law's closure: one round by a port. Conditions: as round's. -/
namespace Go.FreeV
open Go Go.RowKit Go.Free Go.Op
theorem d_mki {P : Program} {effs : List Nat} {ops : Array Oper} {S : List Bool → (Nat → Value) → World → Prop} {i : Nat} (o0 : Oper) (ho : ops[i]? = some o0) {T : TypeId} {x : Operand} (hop : o0.op = .makeInterface T x) {vx v : (Nat → Value) → Value} (h : ∀ β w, (Instr.makeInterface T (vx β)).run P w = .ok (v β) w) : Does P effs ops S ⟨i, fun β => [vx β], v, .pure⟩ := by
  rintro o h1 β ρ h2 w
  rw [ho] at h1
  cases h1
  rw [hop] at h2
  simp [Op.operands] at h2
  simp [execOp, hop, h2, h]
end Go.FreeV
namespace Go.Proofs.YteiikkkcjpfapaaDoor
open Go.RowKit Go.Op
set_option maxRecDepth 100000

/-- The first law's variables. -/
structure PL (w0 : World) (b c r : Nat) (G : List (Nat × List Sw)) (zy zw zr : Nat) (a : Option Addr) (cap : Nat) (ra : Option Addr) (rcap : Nat) (rs : List Rnd) (x : Wg) (s : Ws) (W : World) : Prop where
  y : YVar W zy b 3 (.slice a 8 cap)
  g : GVar W zw x s
  rv : W.cell? ⟨zr, 0, none⟩ = some (.slice ra rs.length rcap)
  rows : rs = [] ∨ ∃ gr off, ra = some ⟨gr, off, none⟩ ∧ gr < w0.heap.size ∧ ∀ (k : Nat) (q : Rnd), rs[k]? = some q → RndAt W gr (off + k * 3) q
  hn : ∃ gh, a = some ⟨gh, 0, none⟩ ∧ LocM w0 b c r G W gh ∧ gh ≠ zw ∧ ∀ (i : Nat) (h : Int), hs8[i]? = some h → W.cell? ⟨gh, i, none⟩ = some (.int .i64 h)
  ws : WIsP (fun g => LocM w0 b c r G W g ∧ g ≠ zw) W x s
  ly : LocM w0 b c r G W zy
  lw : LocM w0 b c r G W zw
  lr : zr < w0.heap.size
  lo : w0.heap.size ≤ b ∧ w0.heap.size ≤ c ∧ w0.heap.size ≤ r ∧ w0.heap.size ≤ W.heap.size
  ne : zy ≠ zw
section
variable {w0 : World} {b c r : Nat} {G G1 : List (Nat × List Sw)} {zy zw zr : Nat} {a : Option Addr} {cap : Nat} {ra : Option Addr} {rcap : Nat} {rs : List Rnd} {x x' : Wg} {s s' : Ws} {W W1 : World}
theorem PL.move (h : PL w0 b c r G zy zw zr a cap ra rcap rs x s W) (hb : ButN [b, c, r] W.heap.size W W1) (hg : Grow W G G1) : PL w0 b c r G1 zy zw zr a cap ra rcap rs x s W1 := by
  obtain ⟨o1, o2, o3, o4⟩ := h.lo
  have kl : ∀ z, LocM w0 b c r G W z → W1.heap[z]? = W.heap[z]? := fun z hz => hb.block z hz.lt (by have := hz.ne; simp; omega)
  have k0 : ∀ z, z < w0.heap.size → W1.heap[z]? = W.heap[z]? := fun z hz => hb.block z (by omega) (by simp; omega)
  obtain ⟨gh, e, lh, nh, hc⟩ := h.hn
  refine ⟨h.y.same (kl _ h.ly), h.g.same hb.size (kl _ h.lw), (World.cell?_of_block (w := W) (a := ⟨zr, 0, none⟩) (k0 _ h.lr)).trans h.rv, h.rows.imp id ?_, ⟨gh, e, lh.later hb.size hg, nh, fun i y hy => (World.cell?_of_block (w := W) (a := ⟨gh, i, none⟩) (kl _ lh)).trans (hc i y hy)⟩, (h.ws.same hb.size fun g hg _ => kl g hg.1).imp fun g hg2 _ => ⟨hg2.1.later hb.size hg, hg2.2⟩, h.ly.later hb.size hg, h.lw.later hb.size hg, h.lr, ⟨o1, o2, o3, Nat.le_trans o4 hb.size⟩, h.ne⟩
  rintro ⟨gr, off, e, hlt, hq⟩
  refine ⟨gr, off, e, hlt, fun k q hk => ?_⟩
  have kk : ∀ j, W1.cell? ⟨gr, j, none⟩ = W.cell? ⟨gr, j, none⟩ := fun j => World.cell?_of_block (w := W) (a := ⟨gr, j, none⟩) (k0 _ hlt)
  unfold RndAt
  rw [kk, kk, kk]
  exact hq k q hk
theorem PL.later (h : PL w0 b c r G zy zw zr a cap ra rcap rs x s W) (hb : Below W.heap.size W W1) : PL w0 b c r G zy zw zr a cap ra rcap rs x s W1 := h.move (ButN.of hb (Nat.le_refl _)) (Grow.refl _ _)
theorem PL.put (h : PL w0 b c r G zy zw zr a cap ra rcap rs x s W) (hw : WIsP (fun g => LocM w0 b c r G W g ∧ g ≠ zw) W x' s') : PL w0 b c r G zy zw zr a cap ra rcap rs x' s' (gput W zw x' s') := by
  obtain ⟨o1, o2, o3, o4⟩ := h.lo
  have hb := gput_but W zw x' s'
  have lg : ∀ z, LocM w0 b c r G W z → LocM w0 b c r G (gput W zw x' s') z := fun z hz => hz.later hb.size (Grow.refl _ _)
  have kl : ∀ z, z < W.heap.size → z ≠ zw → ∀ j, (gput W zw x' s').cell? ⟨z, j, none⟩ = W.cell? ⟨z, j, none⟩ := fun z h1 h2 j => World.cell?_of_block (w := W) (a := ⟨z, j, none⟩) (hb.block z h1 h2)
  have hlw := h.lw.ge
  have hlr := h.lr
  obtain ⟨gh, e, lh, nh, hc⟩ := h.hn
  refine ⟨h.y.same (hb.block _ h.ly.lt h.ne), h.g.put x' s', (kl zr (by omega) (by omega) 0).trans h.rv, h.rows.imp id ?_, ⟨gh, e, lg _ lh, nh, fun i y hy => (kl gh lh.lt nh i).trans (hc i y hy)⟩, (hw.same hb.size fun g hg hl => hb.block g hl hg.2).imp fun g hg _ => ⟨lg g hg.1, hg.2⟩, lg _ h.ly, lg _ h.lw, h.lr, ⟨o1, o2, o3, Nat.le_trans o4 hb.size⟩, h.ne⟩
  rintro ⟨gr, off, e, hlt, hq⟩
  refine ⟨gr, off, e, hlt, fun k q hk => ?_⟩
  unfold RndAt
  rw [kl gr (by omega) (by omega), kl gr (by omega) (by omega), kl gr (by omega) (by omega)]
  exact hq k q hk
theorem enter_13 (xs : Array Value) (w : World) : (callFunc 13 xs).run Tryd.prog w = .ok (.enter 13 xs) w := by kernel_rfl
theorem enter_12 (xs : Array Value) (w : World) : (callFunc 12 xs).run Tryd.prog w = .ok (.enter 12 xs) w := by kernel_rfl
theorem load_22 {w : World} {p : Addr} {a : Option Addr} {n cp : Nat} (h : w.cell? p = some (.slice a n cp)) : (Instr.loadAt 22 (.pointer (some p))).run Tryd.prog w = .ok (.slice a n cp) w := by go_simp
theorem at_22 (g o n cp k : Nat) (h : k < n) (w : World) : (Instr.indexAt 22 (.slice (some ⟨g, o, none⟩) n cp) (.int .i64 (k : Int))).run Tryd.prog w = .ok (.pointer (some ⟨g, o + k * 3, none⟩)) w := by
  have hk : (k : Int) < (n : Int) := by omega
  go_simp
theorem load_39o {g o : Nat} {n more : Int} {wt : Bool} (h0 : W.cell? ⟨g, o, none⟩ = some (.int .u8 n)) (h1 : W.cell? ⟨g, o + 1, none⟩ = some (.int .u8 more)) (h2 : W.cell? ⟨g, o + 2, none⟩ = some (.bool wt)) : (Instr.loadAt 39 (.pointer (some ⟨g, o, none⟩))).run Tryd.prog W = .ok (.agg #[.int .u8 n, .int .u8 more, .bool wt]) W :=
  run_loadAt_mid W g o 39 [.int .u8 n, .int .u8 more, .bool wt] _ (fun j v hj => by
    match j, hj with
    | 0, hj => simp at hj; subst hj; exact h0
    | 1, hj => simp at hj; subst hj; exact h1
    | 2, hj => simp at hj; subst hj; exact h2) Tryd.underlying39 rfl (by kernel_rfl)
def ClPost (w0 : World) (b c r : Nat) (G : List (Nat × List Sw)) (W : World) (x' : Wg) (cc ll : Int) (v : Value) (w' : World) : Prop :=
  v = .iface 4 (.bool true) ∧ ∃ t2 G2 m2 hh2 d2, Dgo w0 b c r W.heap.size [b, c, r] W t2 G G2 w' m2 (ptDo W b) ∧ Rel m2 3 hs8 x' hh2 d2 ∧ Fine m2 (cc + 60) (ll + 2)
def ClMid (w0 : World) (b c r : Nat) (G : List (Nat × List Sw)) (W : World) (x' : Wg) (cc ll : Int) (u : Value) (w' : World) : Prop := ClPost w0 b c r G W x' cc ll (.iface 4 u) w'
set_option maxHeartbeats 1000000 in
theorem clo12 {m : M} {hh cc ll : Int} {d : Ds} (h : HasE w0 b c r G W m) (hT : TabAt w0) (hp : PL w0 b c r G zy zw zr a cap ra rcap rs x s W) (hr : Rel m 3 hs8 x hh d) (hf : Fine m cc ll) (hcc : cc ≤ 14000) (hll : ll ≤ 290) (zi : Nat) (li : LocM w0 b c r G W zi) (i : Nat) (hi : i ≤ 1000) (ci : W.cell? ⟨zi, 0, none⟩ = some (.int .i64 (i : Int))) (q : Rnd) (hq : rs[i]? = some q) (hqn : q.n ≤ 255 ∧ q.more ≤ 255) (hv : 0 ≤ x.ver ∧ x.ver ≤ 1000000) :
    Calls Tryd.prog 12 #[.pointer (some ⟨W.heap.size, 0, none⟩), .pointer (some ⟨zy, 0, none⟩), .pointer (some ⟨zw, 0, none⟩), .pointer (some ⟨zr, 0, none⟩), .pointer (some ⟨zi, 0, none⟩)] (W.alloc (portObj b)) fun e w' => ∃ v, e = .returned v ∧ ClPost w0 b c r G W (x.foll q.n q.more q.wt i) cc ll v w' := by
  have hd := Dgo.start h (Z := [b, c, r]) ⟨by simp, by simp, by simp⟩
  have hb0 := (Below.refl W.heap.size W).alloc (Nat.le_refl _) (portObj b)
  obtain ⟨wp, hwp⟩ : ∃ V, V = W.alloc (portObj b) := ⟨_, rfl⟩
  rw [← hwp] at hd hb0 ⊢
  have hlen : i < rs.length := (List.getElem?_eq_some_iff.1 hq).1
  obtain ⟨gr, off, rfl, hgr, hrows⟩ : ∃ gr off, ra = some ⟨gr, off, none⟩ ∧ gr < w0.heap.size ∧ ∀ (k : Nat) (q : Rnd), rs[k]? = some q → RndAt W gr (off + k * 3) q := by
    rcases hp.rows with e | e
    · rw [e] at hq; simp at hq
    · exact e
  have hrow := hrows i q hq
  have HA : Hid (∀ V, Below wp.heap.size wp V → YVar V zy b 3 (.slice a 8 cap) ∧ GVar V zw x s ∧ V.cell? ⟨zr, 0, none⟩ = some (.slice (some ⟨gr, off, none⟩) rs.length rcap) ∧ V.cell? ⟨zi, 0, none⟩ = some (.int .i64 (i : Int)) ∧ RndAt V gr (off + i * 3) q) := fun V hb => by
    have hb2 := hb0.trans (hb.mono hb0.size)
    have hp2 := hp.later hb2
    obtain ⟨_, _, _, o4⟩ := hp.lo
    refine ⟨hp2.y, hp2.g, hp2.rv, (hb2.cell (p := ⟨zi, 0, none⟩) li.lt).trans ci, ?_⟩
    have kk : ∀ j, V.cell? ⟨gr, j, none⟩ = W.cell? ⟨gr, j, none⟩ := fun j => hb2.cell (p := ⟨gr, j, none⟩) (by simp only; omega)
    unfold RndAt
    rw [kk, kk, kk]
    exact hrow
  have HU : Hid (∀ V, Below wp.heap.size wp V → Calls Tryd.prog 13 #[.agg #[.pointer (some ⟨b, 0, none⟩), .int .i64 3, .slice a 8 cap], .pointer (some ⟨W.heap.size, 0, none⟩), x.v s, .agg #[.int .u8 (q.n : Int), .int .u8 (q.more : Int), .bool q.wt], .int .i64 (i : Int)] V fun e w' => ∃ u, e = .returned u ∧ ClMid w0 b c r G W (x.foll q.n q.more q.wt i) cc ll u w') := fun V hb => by
    have hd2 := hd.later hb
    have hb2 := hb0.trans (hb.mono hb0.size)
    have hp2 := hp.later hb2
    have hlo : ∀ g, LocM w0 b c r G V g → g < W.heap.size → Loc w0 b c r W.heap.size (.slice none 0 0) G V g := fun g hg hl => (LocM.loc (w := W) ⟨hl, hg.ge, hg.ne, hg.ng⟩ hd).same hb.size
    obtain ⟨gh, e, lh, nh, hc⟩ := hp.hn
    have hws := hp.ws
    refine (round_any hd2.sys (ptDo_quiet W b) hT hr hf hcc hll a cap ⟨gh, e, (lh.loc hd).same hb.size, fun j y hy => (hb2.cell (p := ⟨gh, j, none⟩) lh.lt).trans (hc j y hy)⟩ ((hws.imp (Q := Loc w0 b c r W.heap.size (.slice none 0 0) G V) fun g hg _ => (hg.1.loc hd).same hb.size).later hb2) q.n q.more i hqn.1 hqn.2 hi hv q.wt).mono ?_
    rintro e w' ⟨rfl, t2, G2, m2, hh2, d2, ha, h1, h2⟩
    exact ⟨_, rfl, rfl, t2, G2, m2, hh2, d2, hd2.aft ha, h1, h2⟩
  have HB := Lib.hid hb0
  clear hd hb0 hwp hp hrows hrow hr hf ci li h hv
  generalize W.heap.size = pb at *
  go_enter Tryd.func12, Tryd.ntmps12
  go_wp2_with fail
  refine FreeV.region_puts (S := UMid wp 8 (ClMid w0 b c r G W (x.foll q.n q.more q.wt i) cc ll)) (effs := [8])
    (tab := [⟨0, fun _ => [.pointer (some ⟨zy, 0, none⟩)], fun _ => (.agg #[.pointer (some ⟨b, 0, none⟩), .int .i64 3, .slice a 8 cap]), .read⟩,
      ⟨2, fun _ => [.pointer (some ⟨zw, 0, none⟩)], fun _ => (x.v s), .read⟩,
      ⟨3, fun _ => [.pointer (some ⟨zr, 0, none⟩)], fun _ => (.slice (some ⟨gr, off, none⟩) rs.length rcap), .read⟩,
      ⟨4, fun _ => [.pointer (some ⟨zi, 0, none⟩)], fun _ => .int .i64 (i : Int), .read⟩,
      ⟨5, fun _ => [(.slice (some ⟨gr, off, none⟩) rs.length rcap), .int .i64 (i : Int)], fun _ => .pointer (some ⟨gr, off + i * 3, none⟩), .pure⟩,
      ⟨6, fun _ => [.pointer (some ⟨gr, off + i * 3, none⟩)], fun _ => (.agg #[.int .u8 (q.n : Int), .int .u8 (q.more : Int), .bool q.wt]), .read⟩,
      ⟨7, fun _ => [.pointer (some ⟨zi, 0, none⟩)], fun _ => .int .i64 (i : Int), .read⟩,
      ⟨8, fun _ => [.func (.func 13) #[] #[], (.agg #[.pointer (some ⟨b, 0, none⟩), .int .i64 3, .slice a 8 cap]), .pointer (some ⟨pb, 0, none⟩), (x.v s), (.agg #[.int .u8 (q.n : Int), .int .u8 (q.more : Int), .bool q.wt]), .int .i64 (i : Int)], fun β => (β 8), .get⟩,
      ⟨9, fun β => [(β 8)], fun β => (.iface 4 (β 8)), .pure⟩])
    (vs := [([], fun _ => (.agg #[.pointer (some ⟨b, 0, none⟩), .int .i64 3, .slice a 8 cap])), ([], fun _ => .pointer (some ⟨pb, 0, none⟩)), ([], fun _ => (x.v s)), ([], fun _ => (.slice (some ⟨gr, off, none⟩) rs.length rcap)), ([], fun _ => .int .i64 (i : Int)), ([], fun _ => .pointer (some ⟨gr, off + i * 3, none⟩)), ([], fun _ => (.agg #[.int .u8 (q.n : Int), .int .u8 (q.more : Int), .bool q.wt])), ([], fun _ => .int .i64 (i : Int)), ([8], fun l => l.headD undef), ([8], fun l => .iface 4 (l.headD undef)), ([8], fun l => .iface 4 (l.headD undef))])
    (by kernel_rfl) ⟨by kernel_rfl, ⟨FreeV.d_load _ rfl rfl (fun β bs w h hd => yagg (HA.out _ (h.1 ((hd 0 8 rfl).2 (.inl (by kernel_rfl))))).1),
      FreeV.d_load _ rfl rfl (fun β bs w h hd => (HA.out _ (h.1 ((hd 0 8 rfl).2 (.inl (by kernel_rfl))))).2.1.load),
      FreeV.d_load _ rfl rfl (fun β bs w h hd => load_22 (HA.out _ (h.1 ((hd 0 8 rfl).2 (.inl (by kernel_rfl))))).2.2.1),
      FreeV.d_load _ rfl rfl (fun β bs w h hd => load_3 (HA.out _ (h.1 ((hd 0 8 rfl).2 (.inl (by kernel_rfl))))).2.2.2.1),
      FreeV.d_at _ rfl rfl (fun _ w => at_22 gr off rs.length rcap i hlen w),
      FreeV.d_load _ rfl rfl (fun β bs w h hd => load_39o (HA.out _ (h.1 ((hd 0 8 rfl).2 (.inl (by kernel_rfl))))).2.2.2.2.1 (HA.out _ (h.1 ((hd 0 8 rfl).2 (.inl (by kernel_rfl))))).2.2.2.2.2.1 (HA.out _ (h.1 ((hd 0 8 rfl).2 (.inl (by kernel_rfl))))).2.2.2.2.2.2),
      FreeV.d_load _ rfl rfl (fun β bs w h hd => load_3 (HA.out _ (h.1 ((hd 0 8 rfl).2 (.inl (by kernel_rfl))))).2.2.2.1),
      FreeV.d_get5 _ rfl rfl enter_13 0 rfl (fun β bs w h hd => umid_call h ((hd 0 8 rfl).2 (.inr rfl)) HU.out),
      FreeV.d_mki _ rfl rfl (fun _ w => mkb4 _ w),
      trivial⟩,
      fun β => by kernel_rfl, fun β => by kernel_rfl, by kernel_rfl, fun β => by kernel_rfl, by kernel_rfl⟩ umid_start (fun β => Free.from_ 7 [(.agg #[.pointer (some ⟨b, 0, none⟩), .int .i64 3, .slice a 8 cap]), .pointer (some ⟨pb, 0, none⟩), (x.v s), (.slice (some ⟨gr, off, none⟩) rs.length rcap), .int .i64 (i : Int), .pointer (some ⟨gr, off + i * 3, none⟩), (.agg #[.int .u8 (q.n : Int), .int .u8 (q.more : Int), .bool q.wt]), .int .i64 (i : Int), (β 8), (.iface 4 (β 8))] ++ [(6, (.iface 4 (β 8)))]) (fun β => by kernel_rfl) ?_
  intro β w2 h2
  have hP := h2.2 rfl
  clear h2
  rw [FreeX.puts_append, Free.puts_from _ _ _ (Nat.le_of_ble_eq_true rfl)]
  simp only [List.take_succ_cons, List.take_zero, List.drop_succ_cons, List.drop_zero, List.cons_append, List.nil_append, List.length_cons, List.length_nil, Nat.reduceAdd]
  unfold Free.puts
  simp only [List.foldl_cons, List.foldl_nil]
  have HE := Lib.hid hP
  clear hP HA HU HB
  generalize β 8 = u8 at *
  go_wp2_with fail
  go_ret
  exact ⟨_, rfl, HE.out⟩
end
end Go.Proofs.YteiikkkcjpfapaaDoor
/- The first law. Condition: the library's table stands. -/
namespace Go.Proofs.YteiikkkcjpfapaaDoor
open Go.RowKit Go.Op
set_option maxRecDepth 100000

theorem enter_14 (xs : Array Value) (w : World) : (callFunc 14 xs).run Tryd.prog w = .ok (.enter 14 xs) w := by kernel_rfl
def ptrInt (w : World) : Value → Nat
  | .pointer (some a) => match w.cell? a with
    | some v => (intOf v).toNat
    | none => 0
  | _ => 0
theorem ptrInt_at {w : World} {z : Nat} {i : Nat} (h : w.cell? ⟨z, 0, none⟩ = some (.int .i64 (i : Int))) : ptrInt w (.pointer (some ⟨z, 0, none⟩)) = i := by
  unfold ptrInt
  simp only [h]
  simp [intOf]
theorem HasE.newP {w0 : World} {b c r : Nat} {G : List (Nat × List Sw)} {w : World} {m : M} (h : HasE w0 b c r G w m) {z : Nat} (hz : w.heap.size ≤ z) : w0.heap.size ≤ z ∧ (z ≠ b ∧ z ≠ c ∧ z ≠ r) ∧ ∀ x, x ∈ G → x.1 ≠ z := by
  obtain ⟨m0, h1, h2, h3, h4, h5⟩ := h
  have o := h1.at_.own
  have q3 := o.lb
  have q4 := o.lc
  have q6 := o.lr
  have q7 := h1.below.size
  exact ⟨by omega, ⟨by omega, by omega, by omega⟩, fun x hx e => by have := (h5 x.1 x.2 hx).1.lt; omega⟩
/-- In the region that follows. -/
structure FMid (w2 : World) (P : Nat → Prop) (zw : Nat) (x' : Wg) (bs : List Bool) (β : Nat → Value) (V : World) : Prop where
  b0 : bs[0]? = some false → Below w2.heap.size w2 V
  b1 : bs[0]? = some true → bs[1]? = some false → ∃ s', β 6 = x'.v s' ∧ WIsP P V x' s' ∧ Below w2.heap.size w2 V
  b2 : bs[1]? = some true → ∃ s' V0, Below w2.heap.size w2 V0 ∧ WIsP P V0 x' s' ∧ V = gput V0 zw x' s'
section
variable {w2 V : World} {P : Nat → Prop} {zw : Nat} {x x' : Wg} {s : Ws} {bs : List Bool} {β : Nat → Value}
theorem fmid_start : FMid w2 P zw x' [false, false] β w2.drew := ⟨fun _ => (Below.refl _ _).drew, fun e => (by cases e), fun e => (by cases e)⟩
theorem fmid_call (h : FMid w2 P zw x' bs β V) (h0 : bs[0]? = some false) (h1 : bs[1]? = some false) {args : Array Value} (hc : ∀ V, Below w2.heap.size w2 V → Calls Tryd.prog 14 args V fun e w' => ∃ s', e = .returned (x'.v s') ∧ WIsP P w' x' s' ∧ Below V.heap.size V w') :
    Calls Tryd.prog 14 args V fun e w' => ∃ u, e = .returned u ∧ FMid w2 P zw x' (bs.set 0 true) (FreeV.upd β 6 u) w' := by
  have hb := h.b0 h0
  refine (hc V hb).mono ?_
  rintro e w' ⟨s', rfl, hw, hb2⟩
  refine ⟨_, rfl, fun e => ?_, fun _ _ => ⟨s', by simp only [FreeV.upd, if_true], hw, hb.trans (hb2.mono hb.size)⟩, fun e => ?_⟩
  · rw [set_at h0] at e; cases e
  · simp [h1] at e
theorem fmid_store (hg : GVar w2 zw x s) (h : FMid w2 P zw x' bs β V) (h0 : bs[0]? = some true) (h1 : bs[1]? = some false) :
    ∃ w', (Instr.storeAt 32 (.pointer (some ⟨zw, 0, none⟩)) (β 6)).run Tryd.prog V = .ok () w' ∧ FMid w2 P zw x' (bs.set 1 true) β w' := by
  obtain ⟨s', e1, hw, hb⟩ := h.b1 h0 h1
  rw [e1]
  refine ⟨_, (hg.later hb).store _ _, fun e => ?_, fun _ e => ?_, fun _ => ⟨s', V, hb, hw, rfl⟩⟩
  · simp [h0] at e
  · rw [set_at h1] at e; cases e
end
/-- Between two rounds. -/
structure PlMid (W w0 : World) (b c r zy zw zr : Nat) (a : Option Addr) (cap : Nat) (ra : Option Addr) (rcap : Nat) (rs : List Rnd) (i zi : Nat) (wr : World) : Prop where
  st : ∃ G x s hh d m, HasE w0 b c r G wr m ∧ PL w0 b c r G zy zw zr a cap ra rcap rs x s wr ∧ Rel m 3 hs8 x hh d ∧ Fine m (11 + 120 * (i : Int)) (11 + 2 * (i : Int)) ∧ 0 ≤ x.ver ∧ x.ver ≤ 256 * (i : Int) ∧ LocM w0 b c r G wr zi
  ci : wr.cell? ⟨zi, 0, none⟩ = some (.int .i64 (i : Int))
  fi : ∀ j, wr.frozen? ⟨zi, j, none⟩ = false
  bl : Below W.heap.size W wr
  wl : W.heap.size ≤ w0.heap.size
end Go.Proofs.YteiikkkcjpfapaaDoor
/- The first law. Condition: the library's table stands. -/
namespace Go.Proofs.YteiikkkcjpfapaaDoor
open Go.RowKit Go.Op
set_option maxRecDepth 100000

set_option maxHeartbeats 2000000 in
theorem plays_law (W : World) (hT : TabAt W) (a0 : Option Addr) (l : List Rnd) (cap0 : Nat) (hl : Rnds W a0 l) (hok : RndsOk l) :
    Calls Tryd.prog 3 #[.slice a0 l.length cap0] W fun e w' => e = .returned (.bool true) ∧ Below W.heap.size W w' := by
  obtain ⟨n, hn⟩ : ∃ n, n = l.length := ⟨_, rfl⟩
  have hwk := fun (V : World) (hb : Below W.heap.size W V) => awake_any V (hT.below hb)
  have HT := Lib.hid hT
  have HN := Lib.hid (⟨hn, hl, hok⟩ : _ ∧ _ ∧ _)
  rw [← hn]
  clear hn hl hok hT
  have b1 := (Below.refl W.heap.size W).alloc (Nat.le_refl _) (.cells #[.slice a0 n cap0] 22)
  have HB1 := Lib.hid b1
  have haw := hwk _ b1
  have HWK := Lib.hid hwk
  clear hwk b1
  have s1 : (W.alloc (.cells #[.slice a0 n cap0] 22)).heap.size = W.heap.size + 1 := by simp
  have HS1 := Lib.hid s1
  have cr : (W.alloc (.cells #[.slice a0 n cap0] 22)).cell? ⟨W.heap.size, 0, none⟩ = some (.slice a0 n cap0) := by simp [go_sem]
  obtain ⟨w1, hw1⟩ : ∃ V, V = W.alloc (.cells #[.slice a0 n cap0] 22) := ⟨_, rfl⟩
  rw [← hw1] at haw HB1 HS1 cr
  have HW1 := Lib.hid hw1.symm
  clear hw1 s1
  go_enter Tryd.func3, Tryd.ntmps3
  go_wp2_with (first | rw [HW1.out] | fail)
  refine haw.mono ?_
  rintro e w2 ⟨rfl, hb2⟩
  have cr2 := (hb2.cell (p := ⟨W.heap.size, 0, none⟩) (by have := HS1.out; simp only; omega)).trans cr
  have HB2 := Lib.hid (HB1.out.trans (hb2.mono HB1.out.size))
  have HCR := Lib.hid cr2
  have HS2 : Hid (W.heap.size + 1 ≤ w2.heap.size) := by have := HS1.out; have := hb2.size; unfold Hid; omega
  clear haw hb2 cr
  by_cases hlen : n ≤ 30
  · have hl1 : (n : Int) ≤ 30 := by omega
    obtain ⟨e0, e1, e2⟩ := lay_facts
    have hla := lay_any w2 (HT.out.below HB2.out) 300 8 (by decide) (by decide) (by decide) (by rw [e0]) e1 e2
    clear e1 e2
    go_wp2_with fail
    refine hla.mono ?_
    rintro e w3 ⟨⟨b, c, r, G, v, rfl, hE, hN⟩, hb3⟩
    rw [hs8_is] at hN
    rw [e0]
    obtain ⟨a, cap, rfl, hrow⟩ := hN
    simp only [show hs8.length = 8 from rfl] at hrow ⊢
    obtain ⟨gh, rfl, lgh, hgh⟩ : ∃ g, a = some ⟨g, 0, none⟩ ∧ LocM w2 b c r G w3 g ∧ ∀ (i : Nat) (x : Int), hs8[i]? = some x → w3.cell? ⟨g, i, none⟩ = some (.int .i64 x) := by
      rcases hrow with e | e
      · exact absurd e (by decide)
      · exact e
    have b4 := (Below.refl w3.heap.size w3).alloc (Nat.le_refl _) (yobj b 3 (some ⟨gh, 0, none⟩) 8 cap)
    have ly4 := hE.fresh (yobj b 3 (some ⟨gh, 0, none⟩) 8 cap)
    have y4 := ynew w3 b 3 (some ⟨gh, 0, none⟩) 8 cap
    have s4 : (w3.alloc (yobj b 3 (some ⟨gh, 0, none⟩) 8 cap)).heap.size = w3.heap.size + 1 := by simp
    obtain ⟨w4, hw4⟩ : ∃ V, V = w3.alloc (yobj b 3 (some ⟨gh, 0, none⟩) 8 cap) := ⟨_, rfl⟩
    rw [← hw4] at b4 ly4 y4 s4
    have HW4 := Lib.hid hw4.symm
    have hnw := refnew_any w4
    have hE4 := hE.later b4
    have hb24 : Below w2.heap.size w2 w4 := hb3.trans (b4.mono hb3.size)
    have H4 := Lib.hid (⟨hE4, ly4, y4, s4, hb24, (lgh.later b4.size (Grow.refl _ _)), fun (i : Nat) (x : Int) (hx : hs8[i]? = some x) => (b4.cell (p := ⟨gh, i, none⟩) lgh.lt).trans (hgh i x hx), lgh.lt⟩ : _ ∧ _ ∧ _ ∧ _ ∧ _ ∧ _ ∧ _ ∧ _)
    have HYI := Lib.hid y4
    have c00 := y4.c0
    have cr4 := (hb24.cell (p := ⟨W.heap.size, 0, none⟩) (by have := HS2.out; simp only; omega)).trans cr2
    unfold yobj at HW4
    clear hla hrow lgh hgh b4 ly4 y4 s4 hw4 hE hb3 hE4 hb24 e0 cr2
    go_wp2_with (first | rw [HW4.out] | fail)
    refine hnw.mono ?_
    rintro e w5 ⟨s0, rfl, hws, hb5⟩
    have b6 := (Below.refl w5.heap.size w5).alloc (Nat.le_refl _) (gobj wg0 s0)
    have g6 := gnew w5 wg0 s0
    have s6 : (w5.alloc (gobj wg0 s0)).heap.size = w5.heap.size + 1 := by simp
    obtain ⟨w6, hw6⟩ : ∃ V, V = w5.alloc (gobj wg0 s0) := ⟨_, rfl⟩
    have lw6 : LocM w2 b c r G w6 w5.heap.size := by rw [hw6]; exact (H4.out.1.later hb5).fresh _
    rw [← hw6] at b6 g6 s6
    have HW6 := Lib.hid hw6.symm
    have b7 := (Below.refl w6.heap.size w6).alloc (Nat.le_refl _) (.cells #[.int .i64 0] 3)
    have li7 := ((H4.out.1.later hb5).later b6).fresh (.cells #[.int .i64 0] 3)
    have HP0 : Hid (PlMid W w2 b c r w3.heap.size w5.heap.size W.heap.size (some ⟨gh, 0, none⟩) cap a0 cap0 l 0 w6.heap.size (w6.alloc (.cells #[.int .i64 0] 3))) := by
      obtain ⟨q1, q2, q3, q4, q5, q6, q7, q8⟩ := H4.out
      have b47 := hb5.trans ((b6.trans (b7.mono b6.size)).mono hb5.size)
      have b57 := b6.trans (b7.mono b6.size)
      have b27 := q5.trans (b47.mono q5.size)
      have hs5 := hb5.size
      have hs2 := HS2.out
      obtain ⟨o1, o2, o3, o4⟩ := q1.ge
      refine ⟨⟨G, wg0, s0, 2, ⟨0, 0, 1, [], none, 0, 0⟩, m8, ((q1.later hb5).later b6).later b7, ⟨(q3.same (b47.block _ (by omega))), g6.later b7, ?_, ?_, ⟨gh, rfl, q6.later b47.size (Grow.refl _ _), by omega, fun i y hy => (b47.cell (p := ⟨gh, i, none⟩) q6.lt).trans (q7 i y hy)⟩, ?_, q2.later b47.size (Grow.refl _ _), lw6.later b7.size (Grow.refl _ _), by omega, ⟨o1, o2, o3, b27.size⟩, by omega⟩, rel0, by simpa using fine0, by decide, by decide, li7⟩, by simp [go_sem], fun j => World.frozen?_alloc_at _ 3 _ j rfl, HB2.out.trans (b27.mono HB2.out.size), by omega⟩
      · rw [(b27.cell (p := ⟨W.heap.size, 0, none⟩) (by simp only; omega)), ← HN.out.1]; exact HCR.out
      · rcases HN.out.2.1 with e | ⟨gr, off, e, hlt, hq⟩
        · exact .inl e
        · refine .inr ⟨gr, off, e, by omega, fun k q hk => ?_⟩
          have bW := HB2.out.trans (b27.mono HB2.out.size)
          have kk : ∀ j, (w6.alloc (.cells #[.int .i64 0] 3)).cell? ⟨gr, j, none⟩ = W.cell? ⟨gr, j, none⟩ := fun j => bW.cell (p := ⟨gr, j, none⟩) hlt
          unfold RndAt
          rw [kk, kk, kk]
          exact hq k q hk
      · refine ((hws.wisP (P := fun g => w4.heap.size ≤ g) fun _ h => h).imp (Q := fun g => LocM w2 b c r G (w6.alloc (.cells #[.int .i64 0] 3)) g ∧ g ≠ w5.heap.size) fun g hg hl => ?_).later b57
        obtain ⟨p1, p2, p3⟩ := q1.newP hg
        exact ⟨⟨Nat.lt_of_lt_of_le hl b57.size, p1, p2, p3⟩, by omega⟩
    have HN2 : Hid (n ≤ 30 ∧ n = l.length ∧ RndsOk l ∧ TabAt w2) := ⟨hlen, HN.out.1, HN.out.2.2, HT.out.below HB2.out⟩
    unfold gobj at HW6
    unfold Wg.v
    simp only [wg0, upTo_len, List.length_nil] at HW6 ⊢
    clear hnw hws hb5 b6 g6 s6 lw6 b7 li7 hw6 HN HB1 HS1 HW1 HWK HT HB2 HS2 H4 HW4 HYI HCR
    generalize w3.heap.size = zy at *
    go_wp2_with (first | rw [HW6.out] | fail)
    generalize w5.heap.size = zw at *
    go_loopw [6] (fun pv wr => ∃ i zi : Nat, pv = .pointer (some ⟨zi, 0, none⟩) ∧ i ≤ n ∧ Hid (PlMid W w2 b c r zy zw W.heap.size (some ⟨gh, 0, none⟩) cap a0 cap0 l i zi wr)) (fun pv wr => n - ptrInt wr pv)
    case atStart => exact ⟨0, _, rfl, Nat.zero_le _, HP0⟩
    case round =>
      obtain ⟨i, zi, rfl, hi, hR⟩ := hrel
      clear HP0
      obtain ⟨G1, x, s, hh, d, m, hE, hp, hr, hf, hv0, hv1, li⟩ := hR.out.st
      have ci := hR.out.ci
      have HPT := Lib.hid (ptrInt_at ci)
      have rv := hp.rv
      rw [← HN2.out.2.1] at rv
      by_cases hlt : i < n
      · have i1 : (i : Int) < (n : Int) := by omega
        obtain ⟨q, hq⟩ : ∃ q, l[i]? = some q := ⟨_, List.getElem?_eq_getElem (by rw [← HN2.out.2.1]; exact hlt)⟩
        have hqn := HN2.out.2.2.1 q (List.mem_of_getElem? hq)
        have hcl := clo12 hE HN2.out.2.2.2 hp hr hf (by omega) (by omega) zi li i (by omega) ci q hq hqn ⟨hv0, by omega⟩
        have hdo := do_any wr b 12 #[.pointer (some ⟨zy, 0, none⟩), .pointer (some ⟨zw, 0, none⟩), .pointer (some ⟨W.heap.size, 0, none⟩), .pointer (some ⟨zi, 0, none⟩)] _ enter_12 hcl
        have y0 := hp.y.c0
        have a4 := as4_yes
        have hm := hmf1
        have HQ := Lib.hid (⟨hq, hqn⟩ : _ ∧ _)
        have HH := Lib.hid (⟨hE, hp, hr, hf, hv0, hv1, li⟩ : _ ∧ _ ∧ _ ∧ _ ∧ _ ∧ _ ∧ _)
        clear hcl hq hqn hE hp hr hf hv0 hv1 li
        go_wp2_with fail
        refine hdo.mono ?_
        rintro e w8 ⟨u, rfl, rfl, t2, G2, m2, hh2, d2, hd, hr2, hf2⟩
        obtain ⟨x', hx'⟩ : ∃ y, y = x.foll q.n q.more q.wt i := ⟨_, rfl⟩
        rw [← hx'] at hr2
        obtain ⟨hE, hp, hr, hf, hv0, hv1, li⟩ := HH.out
        have hE8 := hd.sys.mem
        have hp8 := hp.move hd.but hd.gro
        have li8 := li.later hd.but.size hd.gro
        have ci8 : w8.cell? ⟨zi, 0, none⟩ = some (.int .i64 (i : Int)) := (World.cell?_of_block (w := wr) (a := ⟨zi, 0, none⟩) (hd.but.block zi li.lt (by have := li.ne; simp; omega))).trans ci
        have hzz : zi ≠ zw := fun e => by
          have := hp8.g.cells.1
          rw [← e, ci8] at this; cases this
        have hb8 : Below W.heap.size W w8 := by
          obtain ⟨o1, o2, o3, o4⟩ := hp.lo
          have hwl := hR.out.wl
          have := hR.out.bl
          exact this.trans (hd.but.below (by simp; omega) this.size)
        have hvx : x'.ver = x.ver + 1 + (q.more : Int) := by rw [hx']; exact foll_ver _ _ _ _ _
        obtain ⟨gr, off, rfl, hgr, hrows⟩ : ∃ gr off, a0 = some ⟨gr, off, none⟩ ∧ gr < w2.heap.size ∧ ∀ (k : Nat) (q : Rnd), l[k]? = some q → RndAt w8 gr (off + k * 3) q := by
          rcases hp8.rows with e | e
          · exact absurd HQ.out.1 (by rw [e]; simp)
          · exact e
        have HA : Hid (∀ V, Below w8.heap.size w8 V → GVar V zw x s ∧ V.cell? ⟨W.heap.size, 0, none⟩ = some (.slice (some ⟨gr, off, none⟩) n cap0) ∧ V.cell? ⟨zi, 0, none⟩ = some (.int .i64 (i : Int)) ∧ RndAt V gr (off + i * 3) q) := fun V hb => by
          have hp9 := hp8.later hb
          have := hp9.rv
          rw [← HN2.out.2.1] at this
          refine ⟨hp9.g, this, (hb.cell (p := ⟨zi, 0, none⟩) li8.lt).trans ci8, ?_⟩
          have o4 := hp8.lo.2.2.2
          have kk : ∀ j, V.cell? ⟨gr, j, none⟩ = w8.cell? ⟨gr, j, none⟩ := fun j => hb.cell (p := ⟨gr, j, none⟩) (by simp only; omega)
          have hrow := hrows i q HQ.out.1
          unfold RndAt
          rw [kk, kk, kk]
          exact hrow
        have HFO : Hid (∀ V, Below w8.heap.size w8 V → Calls Tryd.prog 14 #[x.v s, .agg #[.int .u8 (q.n : Int), .int .u8 (q.more : Int), .bool q.wt], .int .i64 (i : Int)] V fun e w' => ∃ s', e = .returned (x'.v s') ∧ WIsP (fun g => (w2.heap.size ≤ g ∧ (g ≠ b ∧ g ≠ c ∧ g ≠ r) ∧ ∀ y, y ∈ G2 → y.1 ≠ g) ∧ g ≠ zw) w' x' s' ∧ Below V.heap.size V w') := fun V hb => by
          rw [hx']
          exact follow_any V x s ((hp8.ws.imp fun g hg _ => ⟨⟨hg.1.ge, hg.1.ne, hg.1.ng⟩, hg.2⟩).later hb) (fun g hg => ⟨hE8.newP (Nat.le_trans hb.size hg), by have := hp8.lw.lt; have := hb.size; omega⟩) hr.fit q.n q.more i HQ.out.2.1 HQ.out.2.2 (by omega) ⟨hv0, by omega⟩ q.wt
        have HG := Lib.hid hp8.g
        have H8 : Hid (HasE w2 b c r G2 w8 m2 ∧ PL w2 b c r G2 zy zw W.heap.size (some ⟨gh, 0, none⟩) cap (some ⟨gr, off, none⟩) cap0 l x s w8 ∧ Rel m2 3 hs8 x' hh2 d2 ∧ Fine m2 (11 + 120 * (i : Int) + 60) (11 + 2 * (i : Int) + 2) ∧ LocM w2 b c r G2 w8 zi ∧ w8.cell? ⟨zi, 0, none⟩ = some (.int .i64 (i : Int)) ∧ zi ≠ zw ∧ Below W.heap.size W w8 ∧ W.heap.size ≤ w2.heap.size ∧ 0 ≤ x'.ver ∧ x'.ver ≤ 256 * ((i + 1 : Nat) : Int)) :=
          ⟨hE8, hp8, hr2, hf2, li8, ci8, hzz, hb8, hR.out.wl, by rw [hvx]; omega, by rw [hvx]; have := HQ.out.2.2; push_cast; omega⟩
        clear hdo hd hr2 hf2 hx' hE hp hr hf hv0 hv1 li hE8 hp8 li8 ci8 hzz hb8 hvx hgr hrows HH hR ci rv y0
        go_wp2_with fail
        refine FreeV.region_puts (S := FMid w8 (fun g => (w2.heap.size ≤ g ∧ (g ≠ b ∧ g ≠ c ∧ g ≠ r) ∧ ∀ y, y ∈ G2 → y.1 ≠ g) ∧ g ≠ zw) zw x') (effs := [6, 7])
          (tab := [⟨0, fun _ => [.pointer (some ⟨zw, 0, none⟩)], fun _ => (x.v s), .read⟩,
            ⟨1, fun _ => [.pointer (some ⟨W.heap.size, 0, none⟩)], fun _ => (.slice (some ⟨gr, off, none⟩) n cap0), .read⟩,
            ⟨2, fun _ => [.pointer (some ⟨zi, 0, none⟩)], fun _ => .int .i64 (i : Int), .read⟩,
            ⟨3, fun _ => [(.slice (some ⟨gr, off, none⟩) n cap0), .int .i64 (i : Int)], fun _ => .pointer (some ⟨gr, off + i * 3, none⟩), .pure⟩,
            ⟨4, fun _ => [.pointer (some ⟨gr, off + i * 3, none⟩)], fun _ => (.agg #[.int .u8 (q.n : Int), .int .u8 (q.more : Int), .bool q.wt]), .read⟩,
            ⟨5, fun _ => [.pointer (some ⟨zi, 0, none⟩)], fun _ => .int .i64 (i : Int), .read⟩,
            ⟨6, fun _ => [.func (.func 14) #[] #[], (x.v s), (.agg #[.int .u8 (q.n : Int), .int .u8 (q.more : Int), .bool q.wt]), .int .i64 (i : Int)], fun β => (β 6), .get⟩,
            ⟨7, fun β => [.pointer (some ⟨zw, 0, none⟩), (β 6)], fun _ => undef, .put⟩])
          (vs := [([], fun _ => (x.v s)), ([], fun _ => (.slice (some ⟨gr, off, none⟩) n cap0)), ([], fun _ => .int .i64 (i : Int)), ([], fun _ => .pointer (some ⟨gr, off + i * 3, none⟩)), ([], fun _ => (.agg #[.int .u8 (q.n : Int), .int .u8 (q.more : Int), .bool q.wt])), ([], fun _ => .int .i64 (i : Int)), ([6], fun l => l.headD undef), ([], fun _ => undef)])
          (by kernel_rfl) ⟨by kernel_rfl, ⟨FreeV.d_load _ rfl rfl (fun β bs w h hd => (HA.out _ (h.b0 ((hd 0 6 rfl).2 (.inl (by kernel_rfl))))).1.load),
            FreeV.d_load _ rfl rfl (fun β bs w h hd => load_22 (HA.out _ (h.b0 ((hd 0 6 rfl).2 (.inl (by kernel_rfl))))).2.1),
            FreeV.d_load _ rfl rfl (fun β bs w h hd => load_3 (HA.out _ (h.b0 ((hd 0 6 rfl).2 (.inl (by kernel_rfl))))).2.2.1),
            FreeV.d_at _ rfl rfl (fun _ w => at_22 gr off n cap0 i hlt w),
            FreeV.d_load _ rfl rfl (fun β bs w h hd => load_39o (HA.out _ (h.b0 ((hd 0 6 rfl).2 (.inl (by kernel_rfl))))).2.2.2.1 (HA.out _ (h.b0 ((hd 0 6 rfl).2 (.inl (by kernel_rfl))))).2.2.2.2.1 (HA.out _ (h.b0 ((hd 0 6 rfl).2 (.inl (by kernel_rfl))))).2.2.2.2.2),
            FreeV.d_load _ rfl rfl (fun β bs w h hd => load_3 (HA.out _ (h.b0 ((hd 0 6 rfl).2 (.inl (by kernel_rfl))))).2.2.1),
            FreeV.d_get3 _ rfl rfl enter_14 0 rfl (fun β bs w h hd => fmid_call h ((hd 0 6 rfl).2 (.inr rfl)) ((hd 1 7 rfl).2 (.inl (by kernel_rfl))) HFO.out),
            FreeV.d_store _ rfl rfl 1 rfl (fun β bs w h hd => fmid_store HG.out h ((hd 0 6 rfl).1 (by kernel_rfl)) ((hd 1 7 rfl).2 (.inr rfl))),
            trivial⟩,
            fun β => by kernel_rfl, fun β => by kernel_rfl, by kernel_rfl, fun β => by kernel_rfl, by kernel_rfl⟩ fmid_start (fun β => Free.from_ 43 [(x.v s), (.slice (some ⟨gr, off, none⟩) n cap0), .int .i64 (i : Int), .pointer (some ⟨gr, off + i * 3, none⟩), (.agg #[.int .u8 (q.n : Int), .int .u8 (q.more : Int), .bool q.wt]), .int .i64 (i : Int), (β 6)]) (fun β => by kernel_rfl) ?_
        intro β w9 h9
        obtain ⟨s', V0, hb0, hws9, hw9⟩ := h9.b2 rfl
        clear h9
        generalize β 6 = v6 at *
        rw [Free.puts_from _ _ _ (Nat.le_of_ble_eq_true rfl)]
        simp only [List.take_succ_cons, List.take_zero, List.drop_succ_cons, List.drop_zero, List.cons_append, List.nil_append, List.length_cons, List.length_nil, Nat.reduceAdd]
        obtain ⟨hE8, hp8, hr2, hf2, li8, ci8, hzz, hb8, hwl, hv0, hv1⟩ := H8.out
        have hbut9 := gput_but V0 zw x' s'
        have hpV := hp8.later hb0
        have hp9 := hpV.put (hws9.imp (Q := fun g => LocM w2 b c r G2 V0 g ∧ g ≠ zw) fun g hg hl => ⟨⟨hl, hg.1.1, hg.1.2.1, hg.1.2.2⟩, hg.2⟩)
        have hE9 := (hE8.later hb0).aside hbut9 ⟨hpV.lw.ne.1, hpV.lw.ne.2.1, hpV.lw.ne.2.2, hpV.lw.ge, hpV.lw.ng⟩
        have li9 := (li8.later hb0.size (Grow.refl _ _)).later hbut9.size (Grow.refl _ _)
        have ci9 : (gput V0 zw x' s').cell? ⟨zi, 0, none⟩ = some (.int .i64 (i : Int)) := by
          rw [World.cell?_of_block (w := V0) (a := ⟨zi, 0, none⟩) (hbut9.block zi (Nat.lt_of_lt_of_le li8.lt hb0.size) hzz), hb0.cell (p := ⟨zi, 0, none⟩) li8.lt]; exact ci8
        have hbV := hb8.trans (hb0.mono hb8.size)
        have hzw := hpV.lw.ge
        have hb9 : Below W.heap.size W (gput V0 zw x' s') := ⟨hbut9.os.trans hbV.os, hbut9.tape.trans hbV.tape, hbut9.output.trans hbV.output, Nat.le_trans hbV.size hbut9.size, fun k (hk : k < W.heap.size) => (hbut9.block k (by have := hbV.size; omega) (by omega)).trans (hbV.block k hk)⟩
        rw [← hw9] at hp9 hE9 li9 ci9 hb9
        obtain ⟨gh', eg, lgh, ngh, hgh⟩ := id hp9.hn
        cases eg
        have hwd := words_any hE9 (by have := hf2.cnt; omega) 3 (some ⟨gh, 0, none⟩) cap hs8 x'.cells ⟨_, cap, rfl, .inr ⟨gh, rfl, lgh, hgh⟩⟩ (by rw [hr2.fit.len]; rfl) (by decide) (fun i k n h1 h2 => hr2.cell i k n h1 h2)
        simp only [show hs8.length = 8 from rfl] at hwd
        have y0 := hp9.y.c0
        have y1 := hp9.y.c1
        have y2 := hp9.y.c2
        have H9 := Lib.hid (⟨hp9, hr2, hf2, li9, ci9, hb9, hwl, hv0, hv1⟩ : _ ∧ _ ∧ _ ∧ _ ∧ _ ∧ _ ∧ _ ∧ _ ∧ _)
        clear hb0 hws9 hw9 hE8 hp8 hr2 hf2 li8 ci8 hzz hb8 hwl hv0 hv1 hbut9 hpV hp9 hE9 li9 ci9 hbV hzw hb9 lgh ngh hgh H8 HA HFO HG
        go_wp2_with fail
        refine hwd.mono ?_
        rintro e w10 ⟨vw, rfl, hN10, hx10⟩
        obtain ⟨aw, capw, rfl, -⟩ := id hN10
        obtain ⟨hp9, hr2, hf2, li9, ci9, hb9, hwl, hv0, hv1⟩ := H9.out
        have hp10 := hp9.move hx10.but hx10.gro
        have li10 := li9.later hx10.but.size hx10.gro
        have ci10 := (World.cell?_of_block (w := w9) (a := ⟨zi, 0, none⟩) (hx10.but.block zi li9.lt (by have := li9.ne; simp; omega))).trans ci9
        have hlo := hp9.lo
        have hb10 := hb9.trans (hx10.but.below (B := W.heap.size) (by simp; omega) hb9.size)
        have hve := vers_any hx10.has (by have := hf2.cnt; simp only [M.more]; omega) 3 (some ⟨gh, 0, none⟩) 8 cap
        rw [go_version (hr2.more 8)] at hve
        have y0 := hp10.y.c0
        have y1 := hp10.y.c1
        have y2 := hp10.y.c2
        have H10 := Lib.hid (⟨hN10, hx10, hp10, li10, ci10, hb10, hr2, hf2, hwl, hv0, hv1⟩ : _ ∧ _ ∧ _ ∧ _ ∧ _ ∧ _ ∧ _ ∧ _ ∧ _ ∧ _ ∧ _)
        clear hwd hN10 hx10 hp9 hr2 hf2 li9 ci9 hb9 hwl hv0 hv1 hp10 li10 ci10 hlo hb10 H9
        go_wp2_with fail
        refine hve.mono ?_
        rintro e w11 ⟨rfl, G3, hx11⟩
        obtain ⟨hN10, hx10, hp10, li10, ci10, hb10, hr2, hf2, hwl, hv0, hv1⟩ := H10.out
        have hp11 := hp10.move hx11.but hx11.gro
        have ci11 := (World.cell?_of_block (w := w10) (a := ⟨zi, 0, none⟩) (hx11.but.block zi li10.lt (by have := li10.ne; simp; omega))).trans ci10
        have li11 := li10.later hx11.but.size hx11.gro
        have hlo := hp10.lo
        have hb11 := hb10.trans (hx11.but.below (B := W.heap.size) (by simp; omega) hb10.size)
        have hN11 := hN10.keep hx11.but.size hx11.gro (fun k h1 h2 h3 h4 => hx11.but.block k h1 (by simp; omega))
        have hx8 := hr2.fit.len
        obtain ⟨xc, vr, bf, dn, xw⟩ := x'
        obtain ⟨xa, xn, xp, xq⟩ := s'
        have hsm := same_any w11 (B1 := 0) (B2 := 0) aw xa capw xn xc (by
            obtain ⟨a', c', e, hr⟩ := hN11
            cases e
            exact hr.imp id fun ⟨g, e, hl, hc⟩ => ⟨g, e, Nat.zero_le _, hl.lt, hc⟩) (hp11.ws.wis.c) (by rw [hx8]; decide)
        obtain ⟨g0, g1, g2, g3, g4⟩ := hp11.g.cells
        simp only at g0 g1 g2 g3 g4 hv0 hv1
        have H11 := Lib.hid (⟨hx11.has, hp11, hb11, hr2, hf2, hwl, hv0, hv1, ci11, li11⟩ : _ ∧ _ ∧ _ ∧ _ ∧ _ ∧ _ ∧ _ ∧ _ ∧ _ ∧ _)
        clear hve hN10 hx10 hp10 li10 ci10 hb10 hr2 hf2 hwl hv0 hv1 hp11 ci11 li11 hlo hb11 hN11 hx8 hx11 H10 y0 y1 y2
        cases dn with
        | true =>
          go_wp2_with fail
          refine hsm.mono ?_
          rintro e w12 ⟨rfl, hb12⟩
          obtain ⟨hE11, hp11, hb11, hr2, hf2, hwl, hv0, hv1, ci11, li11⟩ := H11.out
          have ci := (hb12.cell (p := ⟨zi, 0, none⟩) li11.lt).trans ci11
          have HE : Hid (PlMid W w2 b c r zy zw W.heap.size (some ⟨gh, 0, none⟩) cap (some ⟨gr, off, none⟩) cap0 l (i + 1) w12.heap.size (w12.alloc (.cells #[.int .i64 ((i : Int) + 1)] 3))) := by
            have b13 := (Below.refl w12.heap.size w12).alloc (Nat.le_refl _) (.cells #[.int .i64 ((i : Int) + 1)] 3)
            have b113 := hb12.trans (b13.mono hb12.size)
            have f3 := (hf2.more 8).more 3
            exact ⟨⟨G3, _, _, _, _, _, hE11.later b113, hp11.later b113, (hr2.more 8).more 3, ⟨f3.tidy, f3.len, by have := f3.cnt; push_cast; omega, by have := f3.liv; push_cast; omega⟩, hv0, hv1, (hE11.later hb12).fresh _⟩, by simp [go_sem], fun j => World.frozen?_alloc_at _ 3 _ j rfl, hb11.trans (b113.mono hb11.size), hwl⟩
          clear hE11 hp11 hb11 hr2 hf2 hwl hv0 hv1 ci11 li11 hsm H11 g0 g1 g2 g3 g4 hb12
          go_wp2_with fail
          go_roundw
          case rel => exact ⟨i + 1, _, rfl, by omega, HE⟩
          case measure =>
            have h1 := HPT.out
            have h2 := ptrInt_at HE.out.ci
            rw [h1, h2]; omega
        | false =>
          go_wp2_with fail
          refine hsm.mono ?_
          rintro e w12 ⟨rfl, hb12⟩
          obtain ⟨hE11, hp11, hb11, hr2, hf2, hwl, hv0, hv1, ci11, li11⟩ := H11.out
          have ci := (hb12.cell (p := ⟨zi, 0, none⟩) li11.lt).trans ci11
          have HE : Hid (PlMid W w2 b c r zy zw W.heap.size (some ⟨gh, 0, none⟩) cap (some ⟨gr, off, none⟩) cap0 l (i + 1) w12.heap.size (w12.alloc (.cells #[.int .i64 ((i : Int) + 1)] 3))) := by
            have b13 := (Below.refl w12.heap.size w12).alloc (Nat.le_refl _) (.cells #[.int .i64 ((i : Int) + 1)] 3)
            have b113 := hb12.trans (b13.mono hb12.size)
            have f3 := (hf2.more 8).more 3
            exact ⟨⟨G3, _, _, _, _, _, hE11.later b113, hp11.later b113, (hr2.more 8).more 3, ⟨f3.tidy, f3.len, by have := f3.cnt; push_cast; omega, by have := f3.liv; push_cast; omega⟩, hv0, hv1, (hE11.later hb12).fresh _⟩, by simp [go_sem], fun j => World.frozen?_alloc_at _ 3 _ j rfl, hb11.trans (b113.mono hb11.size), hwl⟩
          clear hE11 hp11 hb11 hr2 hf2 hwl hv0 hv1 ci11 li11 hsm H11 g0 g1 g2 g3 g4 hb12
          go_wp2_with fail
          go_roundw
          case rel => exact ⟨i + 1, _, rfl, by omega, HE⟩
          case measure =>
            have h1 := HPT.out
            have h2 := ptrInt_at HE.out.ci
            rw [h1, h2]; omega
      · obtain rfl : i = n := by omega
        have HE := Lib.hid hR.out.bl
        clear hR hE hp hr hf hv0 hv1 li
        go_wp2_with fail
        go_ret
        exact ⟨rfl, HE.out⟩
  · have hl1 : ¬ (n : Int) ≤ 30 := by omega
    have ha2 := HWK.out w2 HB2.out
    go_wp2_with fail
    refine ha2.mono ?_
    rintro e w3 ⟨rfl, hb3⟩
    have HE := Lib.hid (HB2.out.trans (hb3.mono HB2.out.size))
    clear ha2 hb3
    go_wp2_with fail
    go_ret
    exact ⟨rfl, HE.out⟩
theorem playsLaw (a0 : Option Addr) (l : List Rnd) (cap0 : Nat) {V : World} (hl : Rnds V a0 l) (hok : RndsOk l) (_W : World) (hT : TabAt V) : Calls Tryd.prog 3 #[.slice a0 l.length cap0] V fun e w' => e = .returned (.bool true) ∧ Below V.heap.size V w' := plays_law V hT a0 l cap0 hl hok
end Go.Proofs.YteiikkkcjpfapaaDoor
