/- The reference's worlds: New, Publish. No condition. -/
import Derived.Test.YteiikkkcjpfapaaDoorWd
namespace Go.Proofs.YteiikkkcjpfapaaDoor
open Go.RowKit Go.Op
set_option maxRecDepth 100000

/-- A reference's world. -/
structure Wg where
  cells : List Int
  ver : Int
  bf : Int
  done : Bool
  wait : List (Nat × Int)
def RowN (B : Nat) (w : World) (a : Option Addr) (l : List Int) : Prop := l = [] ∨ ∃ g, a = some ⟨g, 0, none⟩ ∧ B ≤ g ∧ g < w.heap.size ∧ ∀ (i : Nat) (x : Int), l[i]? = some x → w.cell? ⟨g, i, none⟩ = some (.int .i64 x)
def RowC (B : Nat) (w : World) (a : Option Addr) (l : List (Nat × Int)) : Prop := l = [] ∨ ∃ g, a = some ⟨g, 0, none⟩ ∧ B ≤ g ∧ g < w.heap.size ∧ ∀ (i : Nat) (x : Nat × Int), l[i]? = some x → w.cell? ⟨g, i * 2, none⟩ = some (.int .i64 (x.1 : Int)) ∧ w.cell? ⟨g, i * 2 + 1, none⟩ = some (.int .i64 x.2)
theorem RowN.keep {B B' : Nat} {w w' : World} {a : Option Addr} {l : List Int} (h : RowN B w a l) (hB : B' ≤ B) (hs : w.heap.size ≤ w'.heap.size) (hk : ∀ g, B ≤ g → g < w.heap.size → w'.heap[g]? = w.heap[g]?) : RowN B' w' a l :=
  h.imp id fun ⟨g, e, h1, h2, h3⟩ => ⟨g, e, Nat.le_trans hB h1, Nat.lt_of_lt_of_le h2 hs, fun i x hx => by rw [World.cell?_of_block (w := w) (a := ⟨g, i, none⟩) (hk g h1 h2)]; exact h3 i x hx⟩
theorem RowC.keep {B B' : Nat} {w w' : World} {a : Option Addr} {l : List (Nat × Int)} (h : RowC B w a l) (hB : B' ≤ B) (hs : w.heap.size ≤ w'.heap.size) (hk : ∀ g, B ≤ g → g < w.heap.size → w'.heap[g]? = w.heap[g]?) : RowC B' w' a l :=
  h.imp id fun ⟨g, e, h1, h2, h3⟩ => ⟨g, e, Nat.le_trans hB h1, Nat.lt_of_lt_of_le h2 hs, fun i x hx => by rw [World.cell?_of_block (w := w) (a := ⟨g, i * 2, none⟩) (hk g h1 h2), World.cell?_of_block (w := w) (a := ⟨g, i * 2 + 1, none⟩) (hk g h1 h2)]; exact h3 i x hx⟩
/-- Where a world's rows stand. -/
structure Ws where
  ca : Option Addr
  cc : Nat
  wa : Option Addr
  wc : Nat
def Wg.v (x : Wg) (s : Ws) : Value := .agg #[.slice s.ca x.cells.length s.cc, .int .i64 x.ver, .int .i64 x.bf, .bool x.done, .slice s.wa x.wait.length s.wc]
structure WIs (B : Nat) (w : World) (x : Wg) (s : Ws) : Prop where
  c : RowN B w s.ca x.cells
  w : RowC B w s.wa x.wait
  cc : x.cells.length ≤ s.cc
theorem WIs.keep {B B' : Nat} {w w' : World} {x : Wg} {s : Ws} (h : WIs B w x s) (hB : B' ≤ B) (hs : w.heap.size ≤ w'.heap.size) (hk : ∀ g, B ≤ g → g < w.heap.size → w'.heap[g]? = w.heap[g]?) : WIs B' w' x s := ⟨h.c.keep hB hs hk, h.w.keep hB hs hk, h.cc⟩
theorem WIs.later {B : Nat} {w w' : World} {x : Wg} {s : Ws} (h : WIs B w x s) (hb : Below w.heap.size w w') : WIs B w' x s := h.keep (Nat.le_refl _) hb.size fun g _ h2 => hb.block g h2
theorem RowN.of {w : World} {B : Nat} {v : Value} {l : List Int} (h : OwnI w B v l) : ∃ a c, v = .slice a l.length c ∧ RowN B w a l ∧ l.length ≤ c := by
  obtain ⟨q1, q2⟩ := id h
  rcases q2 with ⟨rfl, h2⟩ | ⟨g, cap, cur, rfl, hb, hc, hd⟩
  · have : l = [] := List.eq_nil_of_length_eq_zero h2
    subst this
    exact ⟨none, 0, rfl, .inl rfl, Nat.le_refl _⟩
  · refine ⟨some ⟨g, 0, none⟩, cap, rfl, .inr ⟨g, rfl, hb, own_lt hc, fun i x hx => ?_⟩, hd.1⟩
    have := World.ownsRow.cells h (g := g) rfl i (.int .i64 x) (by simp [numRow, hx])
    rw [show (⟨g, 0, none⟩ : Addr).add i = ⟨g, i, none⟩ by simp [Addr.add]; rintro rfl; rfl] at this
    exact this
theorem refpublish_any (w : World) (x : Wg) (s : Ws) (ver : Int) (la : Option Addr) (lc : Nat) (l : List (Nat × Int)) :
    Calls Tryd.prog 49 #[x.v s, .int .i64 ver, .slice la l.length lc] w fun e w' => e = .returned ((Wg.mk x.cells ver x.ver false l).v ⟨s.ca, s.cc, la, lc⟩) ∧ Below w.heap.size w w' := by
  unfold Wg.v
  have HE : Hid (∀ o : Obj, (loadVar 32 ⟨w.heap.size + 1, 0, none⟩).run Tryd.prog ((w.alloc o).alloc (.cells #[.slice s.ca x.cells.length s.cc, .int .i64 ver, .int .i64 x.ver, .bool false, .slice la l.length lc] 32)) = .ok (.agg #[.slice s.ca x.cells.length s.cc, .int .i64 ver, .int .i64 x.ver, .bool false, .slice la l.length lc]) ((w.alloc o).alloc (.cells #[.slice s.ca x.cells.length s.cc, .int .i64 ver, .int .i64 x.ver, .bool false, .slice la l.length lc] 32))) := fun o =>
    run_loadVar_mid _ (w.heap.size + 1) 0 32 [.slice s.ca x.cells.length s.cc, .int .i64 ver, .int .i64 x.ver, .bool false, .slice la l.length lc] _ (fun j v hj => by
      rw [Nat.zero_add, show w.heap.size + 1 = (w.alloc o).heap.size by simp, World.cell?_alloc_new]
      simpa using hj) Tryd.underlying32 rfl (by kernel_rfl)
  have HB : Hid (∀ o o' : Obj, Below w.heap.size w ((w.alloc o).alloc o')) := fun o o' => ((Below.refl _ _).alloc (Nat.le_refl _) _).alloc (by simp) _
  go_enter Tryd.func49, Tryd.ntmps49
  go_wp2
  exact bodyPost_ret (results_cell1 Tryd.results49 rfl (HE.out _)) rfl ⟨rfl, HB.out _ _⟩
end Go.Proofs.YteiikkkcjpfapaaDoor
/- The reference's Help and New; the law's changes. Conditions: at most 1000 cells and changes, each of a cell that is there. -/
namespace Go.Proofs.YteiikkkcjpfapaaDoor
open Go.RowKit Go.Op
set_option maxRecDepth 100000

theorem info3' : (Tryd.prog.info? 3).map (fun i => (i.zero, i.size, i.bytes)) = some (some (.int .i64 0), 1, 8) := by kernel_rfl
theorem ints_app (w : World) (q : Nat) (g cap : Nat) (l : List Int) (hl : l.length ≤ 1000000) (h0 : 0 < l.length) (hc : ∀ (i : Nat) (x : Int), l[i]? = some x → w.cell? ⟨g, i, none⟩ = some (.int .i64 x)) :
    ∃ cap' w', (∀ ty, (Builtin.append_ #[25, 25] ty #[.slice (some ⟨q, 0, none⟩) 0 0, .slice (some ⟨g, 0, none⟩) l.length cap]).run Tryd.prog w = .ok (.slice (some ⟨w.heap.size, 0, none⟩) l.length cap') w') ∧ l.length ≤ cap' ∧ Below w.heap.size w w' ∧ w.heap.size < w'.heap.size ∧ (∀ i, w'.frozen? ⟨w.heap.size, i, none⟩ = false) ∧ ∀ (i : Nat) (x : Int), l[i]? = some x → w'.cell? ⟨w.heap.size, i, none⟩ = some (.int .i64 x) := by
  obtain ⟨i0, hi, hz0, hz1, hz2⟩ := info_parts info3'
  have hrun := fun ty => run_append_grow (P := Tryd.prog) w 25 ty 3 i0 _ Tryd.underlying25 hi hz0 ⟨q, 0, none⟩ 0 0 [] (by simp) (fun j u hu => (by simp at hu)) ⟨g, 0, none⟩ l.length cap (numRow l) (by simp [numRow, hz1]) (fun j u hu => by
    rw [add_off, Nat.zero_add]
    simp only [numRow, List.getElem?_map] at hu
    cases hx : l[j]? with
    | none => rw [hx] at hu; simp at hu
    | some x => rw [hx] at hu; simp at hu; rw [hc j x hx, hu]) (by omega) (by omega) (growslice_fits (by omega) (by rw [hz2]; omega))
  have hge := grownCap_ge w (0 + l.length) 0 3
  simp only [Nat.zero_add] at hrun hge
  refine ⟨_, _, hrun, hge, (Below.refl w.heap.size w).drew.alloc (Nat.le_refl _) _, by simp, fun i => ?_, fun i x hx => ?_⟩
  · exact World.frozen?_alloc_at _ 3 _ i rfl
  · have hlt := (List.getElem?_eq_some_iff.1 hx).1
    rw [show w.heap.size = w.drew.heap.size from rfl, World.cell?_alloc_new]
    rw [Array.getElem?_append_left (by simp [numRow]; omega)]
    simp [numRow, hx]
/-- A row of numbers that is written. -/
structure Ow (w : World) (g : Nat) (l : List Int) : Prop where
  lt : g < w.heap.size
  fz : ∀ i, w.frozen? ⟨g, i, none⟩ = false
  at_ : ∀ (i : Nat) (x : Int), l[i]? = some x → w.cell? ⟨g, i, none⟩ = some (.int .i64 x)
theorem Ow.set {w : World} {g : Nat} {l : List Int} (h : Ow w g l) {k : Nat} (hk : k < l.length) (n : Int) : Ow (w.setCell ⟨g, k, none⟩ (.int .i64 n)) g (l.set k n) := by
  refine ⟨by simp [World.setCell]; exact h.lt, fun i => by rw [World.frozen?_setCell]; exact h.fz i, fun i x hx => ?_⟩
  rw [List.getElem?_set] at hx
  split at hx
  · rename_i e
    subst e
    cases hx
    exact set_same (h.at_ k _ (List.getElem?_eq_getElem hk))
  · rename_i e
    exact set_other (h.at_ i x hx) (.inr e)
theorem at_30 (g n cp k : Nat) (h : k < n) (w : World) : (Instr.indexAt 30 (.slice (some ⟨g, 0, none⟩) n cp) (.int .i64 (k : Int))).run Tryd.prog w = .ok (.pointer (some ⟨g, k * 2, none⟩)) w := by
  have hk : (k : Int) < (n : Int) := by omega
  go_simp
/-- What changes make of cells. -/
def setAll (l : List Int) (ws : List (Nat × Int)) : List Int := ws.foldl (fun c p => c.set p.1 p.2) l
theorem setAll_len (ws : List (Nat × Int)) : ∀ l : List Int, (setAll l ws).length = l.length := by
  induction ws with
  | nil => intro l; rfl
  | cons p ws ih => intro l; show (setAll (l.set p.1 p.2) ws).length = _; rw [ih, List.length_set]
theorem setAll_snoc (l : List Int) (ws : List (Nat × Int)) (p : Nat × Int) : setAll l (ws ++ [p]) = (setAll l ws).set p.1 p.2 := by simp [setAll]
def Wg.help (x : Wg) : Wg := ⟨setAll x.cells x.wait, x.ver, x.bf, true, []⟩
set_option maxHeartbeats 1000000 in
theorem refhelp_any (w : World) {B : Nat} (x : Wg) (s : Ws) (hx : WIs B w x s) (h0 : 0 < x.cells.length) (h1 : x.cells.length ≤ 1000) (h2 : x.wait.length ≤ 1000) (hp : ∀ p ∈ x.wait, p.1 < x.cells.length) :
    Calls Tryd.prog 47 #[x.v s] w fun e w' => ∃ s', e = .returned (x.help.v s') ∧ WIs w.heap.size w' x.help s' ∧ Below w.heap.size w w' := by
  obtain ⟨gc, egc, -, hgl, hgc⟩ : ∃ g, s.ca = some ⟨g, 0, none⟩ ∧ B ≤ g ∧ g < w.heap.size ∧ ∀ (i : Nat) (y : Int), x.cells[i]? = some y → w.cell? ⟨g, i, none⟩ = some (.int .i64 y) := by
    rcases hx.c with e | e
    · rw [e] at h0; simp at h0
    · exact e
  have hw := hx.w
  have hwl : (x.wait.length : Int) ≤ 1000 := by omega
  obtain ⟨ca, cc, wa, wc⟩ := s
  simp only at egc hw
  subst egc
  obtain ⟨cells, ver, bf, dn, wait⟩ := x
  simp only at h0 h1 h2 hp hgc hw hwl
  unfold Wg.v
  simp only
  obtain ⟨w1, hw1⟩ : ∃ W, W = (w.alloc (.cells #[.slice (some ⟨gc, 0, none⟩) cells.length cc, .int .i64 ver, .int .i64 bf, .bool dn, .slice wa wait.length wc] 32)).alloc (.cells #[.slice none 0 0, .int .i64 0, .int .i64 0, .bool false, .slice none 0 0] 32) := ⟨_, rfl⟩
  have hs1 : w1.heap.size = w.heap.size + 2 := by rw [hw1]; simp
  have b1 : Below w.heap.size w w1 := by rw [hw1]; exact ((Below.refl _ _).alloc (Nat.le_refl _) _).alloc (by simp) _
  have bx : ∀ i v, (#[.slice (some ⟨gc, 0, none⟩) cells.length cc, .int .i64 ver, .int .i64 bf, .bool dn, .slice wa wait.length wc] : Array Value)[i]? = some v → w1.cell? ⟨w.heap.size, i, none⟩ = some v := fun i v hv => by
    rw [hw1, ((Below.refl (w.alloc (.cells #[.slice (some ⟨gc, 0, none⟩) cells.length cc, .int .i64 ver, .int .i64 bf, .bool dn, .slice wa wait.length wc] 32)).heap.size (w.alloc (.cells #[.slice (some ⟨gc, 0, none⟩) cells.length cc, .int .i64 ver, .int .i64 bf, .bool dn, .slice wa wait.length wc] 32))).alloc (Nat.le_refl _) _).cell (p := ⟨w.heap.size, i, none⟩) (by simp), World.cell?_alloc_new]
    exact hv
  have hsz1 : (w.alloc (.cells #[.slice (some ⟨gc, 0, none⟩) cells.length cc, .int .i64 ver, .int .i64 bf, .bool dn, .slice wa wait.length wc] 32)).heap.size = w.heap.size + 1 := by simp
  have rx : (∀ i v, (#[.slice none 0 0, .int .i64 0, .int .i64 0, .bool false, .slice none 0 0] : Array Value)[i]? = some v → w1.cell? ⟨w.heap.size + 1, i, none⟩ = some v) ∧ ∀ i, w1.frozen? ⟨w.heap.size + 1, i, none⟩ = false := by
    refine ⟨fun i v hv => ?_, fun i => ?_⟩
    · rw [hw1, ← hsz1, World.cell?_alloc_new]; exact hv
    · rw [hw1, ← hsz1]; exact World.frozen?_alloc_at _ 32 _ i rfl
  have b2 := (Below.refl w1.heap.size w1).alloc (Nat.le_refl _) (.cells #[] 3)
  obtain ⟨cap', w2, hrun, hcap, hb2, hlt2, hfz2, hc2⟩ := ints_app (w1.alloc (.cells #[] 3)) w1.heap.size gc cc cells (by omega) h0 (fun i y hy => by
    rw [b2.cell (p := ⟨gc, i, none⟩) (by simp only; omega), b1.cell (p := ⟨gc, i, none⟩) hgl]; exact hgc i y hy)
  have hsz2 : (w1.alloc (.cells #[] 3)).heap.size = w1.heap.size + 1 := by simp
  rw [hsz2] at hrun hlt2 hfz2 hc2
  have HR := Lib.hid hrun
  have b12 : Below w1.heap.size w1 w2 := b2.trans (hb2.mono (by omega))
  have HO : Hid (Ow w2 (w1.heap.size + 1) cells ∧ cells.length ≤ cap' ∧ Below w1.heap.size w1 w2) := ⟨⟨hlt2, hfz2, hc2⟩, hcap, b12⟩
  have HW := Lib.hid hw1.symm
  have HI := Lib.hid (⟨hs1, b1, rx, hw, h0, h1, hp⟩ : _ ∧ _ ∧ _ ∧ _ ∧ _ ∧ _ ∧ _)
  have c0 := bx 0 _ rfl
  have hz1 : w.heap.size < w1.heap.size := by omega
  have HX := Lib.hid bx
  clear hx hgl hgc hw hw1 hs1 b1 bx rx hsz1 b2 hrun hcap hb2 hlt2 hfz2 hc2 b12 hp h0 h2
  go_enter Tryd.func47, Tryd.ntmps47
  go_wp2_with (first | rw [HW.out] | (at_builtin; refine append_run rfl (.tmp 5) (.tmp 7) 25 rfl _ _ _ _ rfl rfl HR.out ?_))
  go_loopw [4] (fun iv wr => ∃ i : Nat, iv = .int .i64 (i : Int) ∧ i ≤ wait.length ∧ Hid (Ow wr (w1.heap.size + 1) (setAll cells (wait.take i)) ∧ Below (w1.heap.size + 1) w2 wr)) (fun iv _ => wait.length - (intOf iv).toNat)
  case atStart => exact ⟨0, rfl, Nat.zero_le _, HO.out.1, Below.refl _ _⟩
  case round =>
    obtain ⟨i, rfl, hi, hR⟩ := hrel
    obtain ⟨hOw, hBw⟩ := hR.out
    have hs2 := HO.out.2.2.size
    have hkeep : ∀ z, z < w1.heap.size → wr.heap[z]? = w1.heap[z]? := fun z hz => (hBw.block z (by omega)).trans (HO.out.2.2.block z hz)
    have b4 : wr.cell? ⟨w.heap.size, 4, none⟩ = some (.slice wa wait.length wc) := (World.cell?_of_block (w := w1) (a := ⟨w.heap.size, 4, none⟩) (hkeep _ hz1)).trans (HX.out 4 _ rfl)
    by_cases hlt : i < wait.length
    · have i1 : (i : Int) < (wait.length : Int) := by omega
      obtain ⟨p, hp⟩ : ∃ p, wait[i]? = some p := ⟨_, List.getElem?_eq_getElem hlt⟩
      obtain ⟨gw, egw, hgw1, hgw2, hgw⟩ : ∃ g, wa = some ⟨g, 0, none⟩ ∧ B ≤ g ∧ g < w.heap.size ∧ ∀ (i : Nat) (x : Nat × Int), wait[i]? = some x → w.cell? ⟨g, i * 2, none⟩ = some (.int .i64 (x.1 : Int)) ∧ w.cell? ⟨g, i * 2 + 1, none⟩ = some (.int .i64 x.2) := by
        rcases HI.out.2.2.2.1 with e | e
        · rw [e] at hlt; simp at hlt
        · exact e
      subst egw
      obtain ⟨p1, p2⟩ := p
      have hpl : p1 < cells.length := HI.out.2.2.2.2.2.2 (p1, p2) (List.mem_of_getElem? hp)
      have kk : ∀ j, wr.cell? ⟨gw, j, none⟩ = w.cell? ⟨gw, j, none⟩ := fun j => (World.cell?_of_block (w := w1) (a := ⟨gw, j, none⟩) (hkeep gw (by omega))).trans (World.cell?_of_block (w := w) (a := ⟨gw, j, none⟩) (HI.out.2.1.block gw hgw2))
      have k0 := (kk _).trans (hgw i _ hp).1
      have k1 := (kk _).trans (hgw i _ hp).2
      simp only at k0 k1
      have hlen : (setAll cells (wait.take i)).length = cells.length := setAll_len _ _
      obtain ⟨yv, cp⟩ : ∃ y, wr.cell? ⟨w1.heap.size + 1, p1, none⟩ = some (.int .i64 y) := ⟨_, hOw.at_ p1 _ (List.getElem?_eq_getElem (by rw [hlen]; exact hpl))⟩
      have fp := hOw.fz
      have j1 : (p1 : Int) < (cells.length : Int) := by omega
      have hz3 : gw < w1.heap.size + 1 := by omega
      have htk : wait.take (i + 1) = wait.take i ++ [(p1, p2)] := by rw [List.take_add_one, hp]; rfl
      have HH : Hid (∀ n, Ow ((wr.setCell ⟨w1.heap.size + 1, p1, none⟩ (.int .i64 p2)).drewN n) (w1.heap.size + 1) (setAll cells (wait.take (i + 1))) ∧ Below (w1.heap.size + 1) w2 ((wr.setCell ⟨w1.heap.size + 1, p1, none⟩ (.int .i64 p2)).drewN n)) := fun n => by
        have h1 := hOw.set (k := p1) (by rw [hlen]; exact hpl) p2
        have hb := below_drewN (B := (wr.setCell ⟨w1.heap.size + 1, p1, none⟩ (.int .i64 p2)).heap.size) (wr.setCell ⟨w1.heap.size + 1, p1, none⟩ (.int .i64 p2)) n
        rw [htk, setAll_snoc]
        have hsz : (wr.setCell ⟨w1.heap.size + 1, p1, none⟩ (.int .i64 p2)).heap.size = wr.heap.size := by simp [World.setCell]
        refine ⟨⟨Nat.lt_of_lt_of_le h1.lt hb.size, fun j => by rw [hb.frozen (p := ⟨w1.heap.size + 1, j, none⟩) h1.lt]; exact h1.fz j, fun j x hx => by rw [hb.cell (p := ⟨w1.heap.size + 1, j, none⟩) h1.lt]; exact h1.at_ j x hx⟩, ?_⟩
        exact ⟨hb.os.trans hBw.os, hb.tape.trans hBw.tape, hb.output.trans hBw.output, Nat.le_trans hBw.size (by rw [← hsz]; exact hb.size), fun z hz => by
          rw [hb.block z (by rw [hsz]; have := hOw.lt; omega), Below.heap_setCell _ _ _ _ (by simp only; omega)]
          exact hBw.block z hz⟩
      have hat := at_30 gw wait.length wc i hlt
      have hat2 := at_25 (w1.heap.size + 1) cells.length cap' p1 hpl
      clear hR hOw hBw hkeep hp hgw hgw1 hgw2 kk hlen htk hs2 hpl
      go_wp2_with fail
      go_region
      go_wp2_with fail
      go_roundw
      case rel => exact ⟨i + 1, by simp, by omega, HH.out 1⟩
      case measure => simp [intOf]; omega
    · obtain rfl : i = wait.length := by omega
      rw [List.take_length] at hOw
      have hr1 := HI.out.1
      have hlo := hOw.lt
      have k2 : ∀ j, wr.cell? ⟨w.heap.size + 1, j, none⟩ = w1.cell? ⟨w.heap.size + 1, j, none⟩ := fun j => World.cell?_of_block (w := w1) (a := ⟨w.heap.size + 1, j, none⟩) (hkeep (w.heap.size + 1) (by omega))
      have r0 := (k2 0).trans (HI.out.2.2.1.1 0 _ rfl)
      have r1 := (k2 1).trans (HI.out.2.2.1.1 1 _ rfl)
      have r2 := (k2 2).trans (HI.out.2.2.1.1 2 _ rfl)
      have r3 := (k2 3).trans (HI.out.2.2.1.1 3 _ rfl)
      have r4 := (k2 4).trans (HI.out.2.2.1.1 4 _ rfl)
      have rf : ∀ j, wr.frozen? ⟨w.heap.size + 1, j, none⟩ = false := fun j => by
        rw [World.frozen?_of_block (w := w1) (a := ⟨w.heap.size + 1, j, none⟩) (hkeep (w.heap.size + 1) (by omega))]; exact HI.out.2.2.1.2 j
      have x1 := (World.cell?_of_block (w := w1) (a := ⟨w.heap.size, 1, none⟩) (hkeep w.heap.size (by omega))).trans (HX.out 1 _ rfl)
      have x2 := (World.cell?_of_block (w := w1) (a := ⟨w.heap.size, 2, none⟩) (hkeep w.heap.size (by omega))).trans (HX.out 2 _ rfl)
      obtain ⟨wf, hwf⟩ : ∃ W, W = ((((wr.setCell ⟨w.heap.size + 1, 0, none⟩ (.slice (some ⟨w1.heap.size + 1, 0, none⟩) cells.length cap')).setCell ⟨w.heap.size + 1, 1, none⟩ (.int .i64 ver)).setCell ⟨w.heap.size + 1, 2, none⟩ (.int .i64 bf)).setCell ⟨w.heap.size + 1, 3, none⟩ (.bool true)).setCell ⟨w.heap.size + 1, 4, none⟩ (.slice none 0 0) := ⟨_, rfl⟩
      have hbf : But (w.heap.size + 1) wr wf := by rw [hwf]; exact (((((But.refl _ _).set _ _).set _ _).set _ _).set _ _).set _ _
      have hall : wf.rangeAt (w.heap.size + 1) 0 [.slice (some ⟨w1.heap.size + 1, 0, none⟩) cells.length cap', .int .i64 ver, .int .i64 bf, .bool true, .slice none 0 0] := fun j v hj => by
        rw [Nat.zero_add, hwf]
        match j, hj with
        | 0, hj => simp at hj; subst hj; exact set_other (set_other (set_other (set_other (set_same r0) (by omega)) (by omega)) (by omega)) (by omega)
        | 1, hj => simp at hj; subst hj; exact set_other (set_other (set_other (set_same (set_other r1 (by omega))) (by omega)) (by omega)) (by omega)
        | 2, hj => simp at hj; subst hj; exact set_other (set_other (set_same (set_other (set_other r2 (by omega)) (by omega))) (by omega)) (by omega)
        | 3, hj => simp at hj; subst hj; exact set_other (set_same (set_other (set_other (set_other r3 (by omega)) (by omega)) (by omega))) (by omega)
        | 4, hj => simp at hj; subst hj; exact set_same (set_other (set_other (set_other (set_other r4 (by omega)) (by omega)) (by omega)) (by omega))
      have HLV : Hid ((loadVar 32 ⟨w.heap.size + 1, 0, none⟩).run Tryd.prog wf = .ok (.agg #[.slice (some ⟨w1.heap.size + 1, 0, none⟩) cells.length cap', .int .i64 ver, .int .i64 bf, .bool true, .slice none 0 0]) wf) :=
        run_loadVar_mid wf (w.heap.size + 1) 0 32 [.slice (some ⟨w1.heap.size + 1, 0, none⟩) cells.length cap', .int .i64 ver, .int .i64 bf, .bool true, .slice none 0 0] _ hall Tryd.underlying32 rfl (by kernel_rfl)
      have HE : Hid (∃ s', Ending.returned (.agg #[.slice (some ⟨w1.heap.size + 1, 0, none⟩) cells.length cap', .int .i64 ver, .int .i64 bf, .bool true, .slice none 0 0]) = .returned ((Wg.mk cells ver bf dn wait).help.v s') ∧ WIs w.heap.size wf (Wg.mk cells ver bf dn wait).help s' ∧ Below w.heap.size w wf) := by
        refine ⟨⟨some ⟨w1.heap.size + 1, 0, none⟩, cap', none, 0⟩, ?_, ⟨.inr ⟨w1.heap.size + 1, rfl, by omega, Nat.lt_of_lt_of_le hlo hbf.size, fun i x hx => ?_⟩, .inl rfl, ?_⟩, ?_⟩
        · simp only [Wg.v, Wg.help, setAll_len, List.length_nil]
        · rw [World.cell?_of_block (w := wr) (a := ⟨w1.heap.size + 1, i, none⟩) (hbf.block (w1.heap.size + 1) hlo (by omega))]
          exact hOw.at_ i x hx
        · simp only [Wg.help, setAll_len]; exact HO.out.2.1
        · have hb1 := HI.out.2.1
          have hb2 := HO.out.2.2
          exact ⟨hbf.os.trans (hBw.os.trans (hb2.os.trans hb1.os)), hbf.tape.trans (hBw.tape.trans (hb2.tape.trans hb1.tape)), hbf.output.trans (hBw.output.trans (hb2.output.trans hb1.output)), by have := hbf.size; have := hBw.size; omega, fun z hz => by
            rw [hbf.block z (by have := hBw.size; omega) (by omega), hkeep z (by omega), hb1.block z hz]⟩
      have HW2 := Lib.hid hwf.symm
      clear hR hOw hBw hkeep hr1 hlo k2 hbf hall hs2 hwf
      go_wp2
      rw [HW2.out]
      exact bodyPost_ret (results_cell1 Tryd.results47 rfl HLV.out) rfl HE.out
end Go.Proofs.YteiikkkcjpfapaaDoor
/- The reference's New; the law's changes. No condition. -/
namespace Go.Proofs.YteiikkkcjpfapaaDoor
open Go.RowKit Go.Op
set_option maxRecDepth 100000

/-- The numbers below n. -/
def upTo : Nat → List Int
  | 0 => []
  | n + 1 => upTo n ++ [(n : Int)]
theorem upTo_len : ∀ n, (upTo n).length = n
  | 0 => rfl
  | n + 1 => by simp [upTo, upTo_len n]
def wg0 : Wg := ⟨upTo 8, 0, 0, true, []⟩
/-- In the midst of New. -/
structure NMid (w : World) (i : Nat) (v : Value) (wr : World) : Prop where
  own : OwnI wr (w.heap.size + 2) v (upTo i)
  c0 : wr.cell? ⟨w.heap.size + 1, 0, none⟩ = some v
  c1 : wr.cell? ⟨w.heap.size + 1, 1, none⟩ = some (.int .i64 0)
  c2 : wr.cell? ⟨w.heap.size + 1, 2, none⟩ = some (.int .i64 0)
  c3 : wr.cell? ⟨w.heap.size + 1, 3, none⟩ = some (.bool true)
  c4 : wr.cell? ⟨w.heap.size + 1, 4, none⟩ = some (.slice none 0 0)
  fz : ∀ j, wr.frozen? ⟨w.heap.size + 1, j, none⟩ = false
  r : ∀ i v, (#[.slice none 0 0, .int .i64 0, .int .i64 0, .bool false, .slice none 0 0] : Array Value)[i]? = some v → wr.cell? ⟨w.heap.size, i, none⟩ = some v
  rz : ∀ j, wr.frozen? ⟨w.heap.size, j, none⟩ = false
  below : Below w.heap.size w wr
  sz : w.heap.size + 2 ≤ wr.heap.size
set_option maxHeartbeats 1000000 in
theorem refnew_any (w : World) : Calls Tryd.prog 10 #[.int .i64 8] w fun e w' => ∃ s, e = .returned (wg0.v s) ∧ WIs w.heap.size w' wg0 s ∧ Below w.heap.size w w' := by
  have hsz : (w.alloc (.cells #[.slice none 0 0, .int .i64 0, .int .i64 0, .bool false, .slice none 0 0] 32)).heap.size = w.heap.size + 1 := by simp
  have b1 := (Below.refl w.heap.size w).alloc (Nat.le_refl _) (.cells #[.slice none 0 0, .int .i64 0, .int .i64 0, .bool false, .slice none 0 0] 32)
  have b2 := (Below.refl (w.alloc (.cells #[.slice none 0 0, .int .i64 0, .int .i64 0, .bool false, .slice none 0 0] 32)).heap.size (w.alloc (.cells #[.slice none 0 0, .int .i64 0, .int .i64 0, .bool false, .slice none 0 0] 32))).alloc (Nat.le_refl _) (.cells #[.slice none 0 0, .int .i64 0, .int .i64 0, .bool true, .slice none 0 0] 32)
  have k1 : ∀ i, ((w.alloc (.cells #[.slice none 0 0, .int .i64 0, .int .i64 0, .bool false, .slice none 0 0] 32)).alloc (.cells #[.slice none 0 0, .int .i64 0, .int .i64 0, .bool true, .slice none 0 0] 32)).cell? ⟨w.heap.size + 1, i, none⟩ = (#[.slice none 0 0, .int .i64 0, .int .i64 0, .bool true, .slice none 0 0] : Array Value)[i]? := fun i => by rw [← hsz, World.cell?_alloc_new]
  have HH : Hid (NMid w 0 (.slice none 0 0) ((w.alloc (.cells #[.slice none 0 0, .int .i64 0, .int .i64 0, .bool false, .slice none 0 0] 32)).alloc (.cells #[.slice none 0 0, .int .i64 0, .int .i64 0, .bool true, .slice none 0 0] 32))) :=
    ⟨OwnI.nil _ _, k1 0, k1 1, k1 2, k1 3, k1 4, fun j => by rw [← hsz]; exact World.frozen?_alloc_at _ 32 _ j rfl, fun i v hv => by
      rw [b2.cell (p := ⟨w.heap.size, i, none⟩) (by simp), World.cell?_alloc_new]; exact hv, fun j => by
      rw [b2.frozen (p := ⟨w.heap.size, j, none⟩) (by simp)]; exact World.frozen?_alloc_at _ 32 _ j rfl, b1.alloc (by simp) _, by simp⟩
  clear hsz b1 b2 k1
  go_enter Tryd.func10, Tryd.ntmps10
  go_wp2_with fail
  go_loopw [4] (fun iv wr => ∃ (i : Nat) (v : Value), iv = .int .i64 (i : Int) ∧ i ≤ 8 ∧ Hid (NMid w i v wr)) (fun iv _ => 8 - (intOf iv).toNat)
  case atStart => exact ⟨0, _, rfl, Nat.zero_le _, HH⟩
  case round =>
    obtain ⟨i, v, rfl, hi, hR⟩ := hrel
    clear HH
    obtain ⟨va, vc, ev, -⟩ := hR.out.own.see
    rw [upTo_len] at ev
    subst ev
    by_cases hlt : i < 8
    · have i1 : (i : Int) < 8 := by omega
      have c0 := hR.out.c0
      have hb3 := (Below.refl wr.heap.size wr).alloc (Nat.le_refl _) (.cells #[.int .i64 (i : Int)] 3)
      have HOW := Lib.hid (hR.out.own.below hb3)
      have HST : Hid (∀ v' w6, OwnI w6 (w.heap.size + 2) v' (upTo i ++ [(i : Int)]) → (wr.alloc (.cells #[.int .i64 (i : Int)] 3)).grownBy w6 (Value.slice va i vc).ownBlock → (v'.ownBlock = (Value.slice va i vc).ownBlock ∨ v'.ownBlock = some (wr.alloc (.cells #[.int .i64 (i : Int)] 3)).heap.size) →
          ∃ va' vc', v' = .slice va' (i + 1) vc' ∧ w6.cell? ⟨w.heap.size + 1, 0, none⟩ = some (.slice va i vc) ∧ (∀ j, w6.frozen? ⟨w.heap.size + 1, j, none⟩ = false) ∧ Hid (NMid w (i + 1) (.slice va' (i + 1) vc') (w6.setCell ⟨w.heap.size + 1, 0, none⟩ (.slice va' (i + 1) vc')))) := by
        intro v' w6 g1 g2 g3
        obtain ⟨va', vc', ev, -⟩ := g1.see
        rw [List.length_append, upTo_len, List.length_singleton] at ev
        subst ev
        have hM := hR.out
        have hsz := hM.sz
        have hs3 := hb3.size
        have hs6 := g2.size
        have h6 : ∀ z, z < w.heap.size + 2 → w6.heap[z]? = wr.heap[z]? := fun z hz => (g2.block z (by omega) (fun e => by have := (HOW.out.lt z e.symm).1; omega)).trans (hb3.block z (by omega))
        have ky : ∀ j, w6.cell? ⟨w.heap.size + 1, j, none⟩ = wr.cell? ⟨w.heap.size + 1, j, none⟩ := fun j => World.cell?_of_block (w := wr) (a := ⟨w.heap.size + 1, j, none⟩) (h6 (w.heap.size + 1) (by omega))
        have kr : ∀ j, w6.cell? ⟨w.heap.size, j, none⟩ = wr.cell? ⟨w.heap.size, j, none⟩ := fun j => World.cell?_of_block (w := wr) (a := ⟨w.heap.size, j, none⟩) (h6 w.heap.size (by omega))
        have fy : ∀ j, w6.frozen? ⟨w.heap.size + 1, j, none⟩ = false := fun j => by rw [World.frozen?_of_block (w := wr) (a := ⟨w.heap.size + 1, j, none⟩) (h6 (w.heap.size + 1) (by omega))]; exact hM.fz j
        have b1 : But (w.heap.size + 1) w6 (w6.setCell ⟨w.heap.size + 1, 0, none⟩ (.slice va' (i + 1) vc')) := (But.refl _ _).set _ _
        refine ⟨va', vc', rfl, (ky 0).trans hM.c0, fy, ⟨?_, set_same ((ky 0).trans hM.c0), set_other ((ky 1).trans hM.c1) (by omega), set_other ((ky 2).trans hM.c2) (by omega), set_other ((ky 3).trans hM.c3) (by omega), set_other ((ky 4).trans hM.c4) (by omega), fun j => by rw [World.frozen?_setCell]; exact fy j, fun j v hv => set_other ((kr j).trans (hM.r j v hv)) (by omega), fun j => ?_, ?_, ?_⟩⟩
        · exact g1.of fun z h1 h2 => b1.block z h2 (by omega)
        · rw [World.frozen?_setCell, World.frozen?_of_block (w := wr) (a := ⟨w.heap.size, j, none⟩) (h6 w.heap.size (by omega))]; exact hM.rz j
        · have hb := hM.below
          exact ⟨b1.os.trans (g2.os.trans (hb3.os.trans hb.os)), b1.tape.trans (g2.tape.trans (hb3.tape.trans hb.tape)), b1.output.trans (g2.output.trans (hb3.output.trans hb.output)), by have := b1.size; omega, fun z hz => by
            rw [b1.block z (by omega) (by omega), h6 z (by omega)]; exact hb.block z hz⟩
        · have := b1.size; omega
      have HSZ := Lib.hid hR.out.sz
      clear hR hb3
      go_wp2_with (at_builtin; refine append1 rfl (.tmp 12) (.tmp 14) rfl (w.heap.size + 2) (.slice va i vc) (upTo i) (i : Int) rfl HOW.out wr.heap.size 1 rfl (by simp [go_sem]) (by rw [upTo_len]; omega) (by have := HSZ.out; simp; omega) ?_; intro v' w6 g1 g2 g3; obtain ⟨va', vc', rfl, d1, d2, HH⟩ := HST.out v' w6 g1 g2 g3; clear g1 g2 g3)
      clear HST HOW
      go_roundw
      case rel => exact ⟨i + 1, _, by simp, by omega, HH⟩
      case measure => simp [intOf]; omega
    · obtain rfl : i = 8 := by omega
      have hM := hR.out
      have c0 := hM.c0
      have c1 := hM.c1
      have c2 := hM.c2
      have c3 := hM.c3
      have c4 := hM.c4
      have r0 := hM.r 0 _ rfl
      have r1 := hM.r 1 _ rfl
      have r2 := hM.r 2 _ rfl
      have r3 := hM.r 3 _ rfl
      have r4 := hM.r 4 _ rfl
      have rz := hM.rz
      obtain ⟨wf, hwf⟩ : ∃ W, W = ((((wr.setCell ⟨w.heap.size, 0, none⟩ (.slice va 8 vc)).setCell ⟨w.heap.size, 1, none⟩ (.int .i64 0)).setCell ⟨w.heap.size, 2, none⟩ (.int .i64 0)).setCell ⟨w.heap.size, 3, none⟩ (.bool true)).setCell ⟨w.heap.size, 4, none⟩ (.slice none 0 0) := ⟨_, rfl⟩
      have hbf : But w.heap.size wr wf := by rw [hwf]; exact (((((But.refl _ _).set _ _).set _ _).set _ _).set _ _).set _ _
      have hall : wf.rangeAt w.heap.size 0 [.slice va 8 vc, .int .i64 0, .int .i64 0, .bool true, .slice none 0 0] := fun j v hj => by
        rw [Nat.zero_add, hwf]
        match j, hj with
        | 0, hj => simp at hj; subst hj; exact set_other (set_other (set_other (set_other (set_same r0) (by omega)) (by omega)) (by omega)) (by omega)
        | 1, hj => simp at hj; subst hj; exact set_other (set_other (set_other (set_same (set_other r1 (by omega))) (by omega)) (by omega)) (by omega)
        | 2, hj => simp at hj; subst hj; exact set_other (set_other (set_same (set_other (set_other r2 (by omega)) (by omega))) (by omega)) (by omega)
        | 3, hj => simp at hj; subst hj; exact set_other (set_same (set_other (set_other (set_other r3 (by omega)) (by omega)) (by omega))) (by omega)
        | 4, hj => simp at hj; subst hj; exact set_same (set_other (set_other (set_other (set_other r4 (by omega)) (by omega)) (by omega)) (by omega))
      have HLV : Hid ((loadVar 32 ⟨w.heap.size, 0, none⟩).run Tryd.prog wf = .ok (.agg #[.slice va 8 vc, .int .i64 0, .int .i64 0, .bool true, .slice none 0 0]) wf) :=
        run_loadVar_mid wf w.heap.size 0 32 [.slice va 8 vc, .int .i64 0, .int .i64 0, .bool true, .slice none 0 0] _ hall Tryd.underlying32 rfl (by kernel_rfl)
      have HE : Hid (∃ s, Ending.returned (.agg #[.slice va 8 vc, .int .i64 0, .int .i64 0, .bool true, .slice none 0 0]) = .returned (wg0.v s) ∧ WIs w.heap.size wf wg0 s ∧ Below w.heap.size w wf) := by
        obtain ⟨a, c, ev, hrow, hcap⟩ := RowN.of hM.own
        rw [upTo_len] at ev
        cases ev
        refine ⟨⟨va, vc, none, 0⟩, ?_, ⟨hrow.keep (by omega) hbf.size (fun g h1 h2 => hbf.block g h2 (by omega)), .inl rfl, hcap⟩, ?_⟩
        · simp only [Wg.v, wg0, upTo_len, List.length_nil]
        · have hb := hM.below
          exact ⟨hbf.os.trans hb.os, hbf.tape.trans hb.tape, hbf.output.trans hb.output, Nat.le_trans hb.size hbf.size, fun z hz => by
            rw [hbf.block z (by have := hb.size; omega) (by omega)]; exact hb.block z hz⟩
      have HW2 := Lib.hid hwf.symm
      clear hR hM hbf hall hwf
      go_wp2
      rw [HW2.out]
      exact bodyPost_ret (results_cell1 Tryd.results10 rfl HLV.out) rfl HE.out
end Go.Proofs.YteiikkkcjpfapaaDoor
/- The law's changes. Conditions: the number of the round is at most 1000. -/
namespace Go.Proofs.YteiikkkcjpfapaaDoor
open Go.RowKit Go.Op
set_option maxRecDepth 100000

def bit (n k : Nat) : Bool := n / 2 ^ k % 2 == 1
def chgTo (n i : Nat) : Nat → List (Nat × Int)
  | 0 => []
  | k + 1 => chgTo n i k ++ (if bit n k = true then [(k, 100 * ((i : Int) + 1) + (k : Int))] else [])
def chg (n i : Nat) : List (Nat × Int) := chgTo n i 8
theorem chgTo_len (n i : Nat) : ∀ k, (chgTo n i k).length ≤ k
  | 0 => by simp [chgTo]
  | k + 1 => by
    have := chgTo_len n i k
    simp only [chgTo, List.length_append]
    split <;> simp <;> omega
theorem chgTo_mem (n i : Nat) : ∀ k p, p ∈ chgTo n i k → p.1 < k ∧ bit n p.1 = true ∧ p.2 = 100 * ((i : Int) + 1) + (p.1 : Int)
  | 0, p, h => by simp [chgTo] at h
  | k + 1, p, h => by
    simp only [chgTo, List.mem_append] at h
    rcases h with h | h
    · have := chgTo_mem n i k p h
      exact ⟨by omega, this.2⟩
    · split at h
      · rename_i hb
        simp at h
        subst h
        exact ⟨by simp, hb, rfl⟩
      · simp at h
theorem and_one : ∀ x : Nat, x < 256 → bits BinOp.and IntKind.u8 (x : Int) 1 = ((x % 2 : Nat) : Int) := by decide +kernel
theorem bit_is (n k : Nat) (hn : n ≤ 255) : (bits BinOp.and IntKind.u8 ((n : Int) / 2 ^ k) 1 == 1) = bit n k := by
  have hx : n / 2 ^ k < 256 := Nat.lt_of_le_of_lt (Nat.div_le_self _ _) (by omega)
  have e : ((n : Int) / 2 ^ k) = ((n / 2 ^ k : Nat) : Int) := by push_cast; rfl
  rw [e, and_one _ hx]
  unfold bit
  generalize n / 2 ^ k % 2 = y
  by_cases hy : y = 1
  · subst hy; rfl
  · have h1 : ((y : Int) == 1) = false := by simp; omega
    have h2 : (y == 1) = false := by simp; omega
    rw [h1, h2]
def chRow (l : List (Nat × Int)) : List Value := l.flatMap fun p => [.int .i64 (p.1 : Int), .int .i64 p.2]
theorem chRow_len : ∀ l, (chRow l).length = l.length * 2
  | [] => rfl
  | p :: l => by have := chRow_len l; simp only [chRow, List.flatMap_cons, List.length_append, List.length_cons] at this ⊢; simp only [List.length_nil]; omega
theorem chRow_get : ∀ (l : List (Nat × Int)) (k : Nat) (p : Nat × Int), l[k]? = some p → (chRow l)[k * 2]? = some (.int .i64 (p.1 : Int)) ∧ (chRow l)[k * 2 + 1]? = some (.int .i64 p.2)
  | [], _, _, h => by simp at h
  | q :: l, 0, p, h => by
    simp only [List.getElem?_cons_zero, Option.some.injEq] at h
    subst h
    simp [chRow]
  | q :: l, k + 1, p, h => by
    have ih := chRow_get l k p (by simpa using h)
    simp only [chRow, List.flatMap_cons] at ih ⊢
    rw [show (k + 1) * 2 = k * 2 + 2 by omega]
    exact ⟨by simpa using ih.1, by rw [show k * 2 + 2 + 1 = (k * 2 + 1) + 2 by omega]; simpa using ih.2⟩
def OwnC (w : World) (B : Nat) (v : Value) (l : List (Nat × Int)) : Prop := w.ownsRow B 88 2 v l.length (chRow l)
theorem info88 : (Tryd.prog.info? 88).map (fun i => (i.zero, i.size, i.bytes)) = some (some (.agg #[.int .i64 0, .int .i64 0]), 2, 16) := by kernel_rfl
theorem append_ch {ops : Array Oper} {rest : List Oper} {o : Oper} {a : Act} {w : World} {Q : Exit → Act → World → Prop}
    (hg : o.guard = none) (s x : Operand) (hop : o.op = Op.call { callee := Callee.builtin Builtin.append, args := #[s, x], argTypes := #[30, 30] })
    (B : Nat) (v : Value) (l : List (Nat × Int)) (p : Nat × Int) (hs : a.eval s = v) (hown : OwnC w B v l) (g c : Nat) (hx : a.eval x = .slice (some ⟨g, 0, none⟩) 1 c) (hc0 : w.cell? ⟨g, 0, none⟩ = some (.int .i64 (p.1 : Int))) (hc1 : w.cell? ⟨g, 1, none⟩ = some (.int .i64 p.2))
    (hl : l.length ≤ 1000000) (hB : B ≤ w.heap.size)
    (hK : ∀ v' w', OwnC w' B v' (l ++ [p]) → w.grownBy w' v.ownBlock → wpList Tryd.prog ops Q rest (a.put o.dst v') w') :
    wpList Tryd.prog ops Q (o :: rest) a w := by
  obtain ⟨i0, hi, hz0, hz1, hz2⟩ := info_parts info88
  refine wpList_append_own_at w hg s x 30 hop B 88 i0 (.agg #[.int .i64 0, .int .i64 0]) 2 16 Tryd.underlying30 hi hz0 hz1 hz2 rfl (by decide) v _ _ hs hown ⟨g, 0, none⟩ 1 c [.int .i64 (p.1 : Int), .int .i64 p.2] hx rfl ?_ (fun u hu => by simp at hu; rcases hu with rfl | rfl <;> rfl) (by unfold maxLen; omega) (by omega) hB ?_
  · intro j u hu
    match j, hu with
    | 0, hu => simp at hu; subst hu; exact hc0
    | 1, hu => simp at hu; subst hu; rw [add_off]; exact hc1
  · intro v' w' h1 h2 _ _
    refine hK v' w' ?_ h2
    unfold OwnC
    rw [List.length_append, show chRow (l ++ [p]) = chRow l ++ [.int .i64 (p.1 : Int), .int .i64 p.2] by simp [chRow]]
    exact h1
/-- In the midst of changes. -/
structure CMid (w : World) (n i k : Nat) (v : Value) (wr : World) : Prop where
  own : OwnC wr (w.heap.size + 1) v (chgTo n i k)
  below : Below w.heap.size w wr
  c0 : wr.cell? ⟨w.heap.size, 0, none⟩ = some (.int .u8 (n : Int))
  sz : w.heap.size + 1 ≤ wr.heap.size
theorem OwnC.see {w : World} {B : Nat} {v : Value} {l : List (Nat × Int)} (h : OwnC w B v l) : ∃ a c, v = .slice a l.length c ∧ RowC B w a l ∧ (l = [] → True) := by
  obtain ⟨q1, q2⟩ := id h
  rcases q2 with ⟨rfl, h2⟩ | ⟨g, cap, cur, rfl, hb, hc, hd⟩
  · have : l = [] := List.eq_nil_of_length_eq_zero h2
    subst this
    exact ⟨none, 0, rfl, .inl rfl, fun _ => trivial⟩
  · refine ⟨some ⟨g, 0, none⟩, cap, rfl, .inr ⟨g, rfl, hb, own_lt hc, fun i x hx => ?_⟩, fun _ => trivial⟩
    have h0 := World.ownsRow.cells h (g := g) rfl (i * 2) _ (chRow_get l i x hx).1
    have h1 := World.ownsRow.cells h (g := g) rfl (i * 2 + 1) _ (chRow_get l i x hx).2
    rw [add_off, Nat.zero_add] at h0 h1
    exact ⟨h0, h1⟩
theorem OwnC.lt {w : World} {B : Nat} {v : Value} {l : List (Nat × Int)} (h : OwnC w B v l) : ∀ k, v.ownBlock = some k → B ≤ k ∧ k < w.heap.size := World.ownsRow.lt h
theorem OwnC.below {w w' : World} {B : Nat} {v : Value} {l : List (Nat × Int)} (h : OwnC w B v l) (hb : Below w.heap.size w w') : OwnC w' B v l := by
  obtain ⟨h1, h2⟩ := h
  refine ⟨h1, h2.imp id ?_⟩
  rintro ⟨g, cap, cur, e, b, c, d⟩
  exact ⟨g, cap, cur, e, b, by rw [hb.block g (own_lt c)]; exact c, d⟩
set_option maxHeartbeats 1000000 in
theorem changes_any (w : World) (n i : Nat) (hn : n ≤ 255) (hi : i ≤ 1000) (more : Int) (wait : Bool) :
    Calls Tryd.prog 48 #[.agg #[.int .u8 (n : Int), .int .u8 more, .bool wait], .int .i64 (i : Int)] w fun e w' => ∃ a c, e = .returned (.slice a (chg n i).length c) ∧ RowC w.heap.size w' a (chg n i) ∧ Below w.heap.size w w' := by
  have b1 := (Below.refl w.heap.size w).alloc (Nat.le_refl _) (.cells #[.int .u8 (n : Int), .int .u8 more, .bool wait] 39)
  have HH : Hid (CMid w n i 0 (.slice none 0 0) (w.alloc (.cells #[.int .u8 (n : Int), .int .u8 more, .bool wait] 39))) :=
    ⟨World.ownsRow_nil _ _ _ _, b1, by simp [go_sem], by simp⟩
  have hi2 : (i : Int) ≤ 1000 := by omega
  have hn2 : (n : Int) ≤ 255 := by omega
  clear b1
  go_enter Tryd.func48, Tryd.ntmps48
  go_wp2_with fail
  go_loopw [5, 6] (fun lv iv wr => ∃ (k : Nat) (v : Value), lv = v ∧ iv = .int .i64 (k : Int) ∧ k ≤ 8 ∧ Hid (CMid w n i k v wr)) (fun _ iv _ => 8 - (intOf iv).toNat)
  case atStart => exact ⟨0, _, rfl, rfl, Nat.zero_le _, HH⟩
  case round =>
    obtain ⟨k, v, rfl, rfl, hk, hR⟩ := hrel
    clear HH
    obtain ⟨va, vc, rfl, -⟩ := hR.out.own.see
    have c0 := hR.out.c0
    by_cases hlt : k < 8
    · have i1 : (k : Int) < 8 := by omega
      have hbi := bit_is n k hn
      have hcl := chgTo_len n i k
      cases hb : bit n k with
      | true =>
        rw [hb] at hbi
        have HC1 : Hid (chgTo n i (k + 1) = chgTo n i k ++ [(k, 100 * ((i : Int) + 1) + (k : Int))]) := by
          unfold Hid; simp only [chgTo]; rw [if_pos hb]
        have hb3 := (Below.refl wr.heap.size wr).alloc (Nat.le_refl _) (.cells #[.int .i64 (k : Int), .int .i64 (100 * ((i : Int) + 1) + (k : Int))] 88)
        have HOW := Lib.hid (hR.out.own.below hb3)
        have HST : Hid (∀ v' w6, OwnC w6 (w.heap.size + 1) v' (chgTo n i k ++ [(k, 100 * ((i : Int) + 1) + (k : Int))]) → (wr.alloc (.cells #[.int .i64 (k : Int), .int .i64 (100 * ((i : Int) + 1) + (k : Int))] 88)).grownBy w6 (Value.slice va (chgTo n i k).length vc).ownBlock → Hid (CMid w n i (k + 1) v' w6)) := by
          intro v' w6 g1 g2
          have hM := hR.out
          have hsz := hM.sz
          have hs3 := hb3.size
          have hs6 := g2.size
          have h6 : ∀ z, z < w.heap.size + 1 → w6.heap[z]? = wr.heap[z]? := fun z hz => (g2.block z (by omega) (fun e => by have := (HOW.out.lt z e.symm).1; omega)).trans (hb3.block z (by omega))
          have hb := hM.below
          refine ⟨by rw [HC1.out]; exact g1, ⟨g2.os.trans (hb3.os.trans hb.os), g2.tape.trans (hb3.tape.trans hb.tape), g2.output.trans (hb3.output.trans hb.output), by omega, fun z hz => (h6 z (by omega)).trans (hb.block z hz)⟩, (World.cell?_of_block (w := wr) (a := ⟨w.heap.size, 0, none⟩) (h6 w.heap.size (by omega))).trans hM.c0, by omega⟩
        have HSZ := Lib.hid hR.out.sz
        have HCL := Lib.hid hcl
        clear hR hb3 hb hcl
        go_wp2_with (at_builtin; refine append_ch rfl (.tmp 17) (.tmp 25) rfl (w.heap.size + 1) (.slice va (chgTo n i k).length vc) (chgTo n i k) (k, 100 * ((i : Int) + 1) + (k : Int)) rfl HOW.out wr.heap.size 1 rfl (by simp [go_sem]) (by simp [go_sem]) (by have := HCL.out; omega) (by have := HSZ.out; simp; omega) ?_; intro v' w6 g1 g2; have HH := HST.out v' w6 g1 g2; clear g1 g2)
        clear HST HOW
        go_roundw
        case rel => exact ⟨k + 1, _, rfl, by simp, by omega, HH⟩
        case measure => simp [intOf]; omega
      | false =>
        rw [hb] at hbi
        have e1 : chgTo n i (k + 1) = chgTo n i k := by simp only [chgTo]; rw [if_neg (by rw [hb]; decide), List.append_nil]
        have HH : Hid (CMid w n i (k + 1) (.slice va (chgTo n i k).length vc) wr) := ⟨by rw [e1]; exact hR.out.own, hR.out.below, hR.out.c0, hR.out.sz⟩
        clear hR hb hcl e1
        go_wp2_with fail
        go_roundw
        case rel => exact ⟨k + 1, _, rfl, by simp, by omega, HH⟩
        case measure => simp [intOf]; omega
    · obtain rfl : k = 8 := by omega
      have hM := hR.out
      obtain ⟨a, c, ev, hrow, -⟩ := hM.own.see
      cases ev
      have HE : Hid (RowC w.heap.size wr va (chg n i) ∧ Below w.heap.size w wr) := ⟨hrow.keep (by omega) (Nat.le_refl _) (fun _ _ _ => rfl), hM.below⟩
      clear hR hM hrow
      go_wp2
      go_ret
      exact ⟨va, vc, rfl, HE.out⟩
end Go.Proofs.YteiikkkcjpfapaaDoor
