/- What the law's row makes of any nodes: views, right ones. Condition: 1 to 20 nodes. -/
import Derived.Test.YtjlifkhpohfiaaaRd
import Derived.Test.YtjlifkhpohfiaaaMb
namespace Go.Proofs.Ytjlifkhpohfiaaa
open Go.RowKit Go.Op
set_option maxRecDepth 100000

theorem enter_30 (xs : Array Value) (w : World) : (callFunc 30 xs).run Try.prog w = .ok (.enter 30 xs) w := by kernel_rfl
theorem enter_31 (xs : Array Value) (w : World) : (callFunc 31 xs).run Try.prog w = .ok (.enter 31 xs) w := by kernel_rfl
theorem enter_13 (xs : Array Value) (w : World) : (callFunc 13 xs).run Try.prog w = .ok (.enter 13 xs) w := by kernel_rfl
theorem enter_29 (xs : Array Value) (w : World) : (callFunc 29 xs).run Try.prog w = .ok (.enter 29 xs) w := by kernel_rfl
theorem enter_19 (xs : Array Value) (w : World) : (callFunc 19 xs).run Try.prog w = .ok (.enter 19 xs) w := by kernel_rfl
theorem enter_16 (xs : Array Value) (w : World) : (callFunc 16 xs).run Try.prog w = .ok (.enter 16 xs) w := by kernel_rfl
theorem load_5 {w : World} {p : Addr} {b : Int} (h : w.cell? p = some (.int .u8 b)) : (Instr.loadAt 5 (.pointer (some p))).run Try.prog w = .ok (.int .u8 b) w := by go_simp
theorem load_35 {w : World} {p : Addr} {a : Option Addr} {n c : Nat} (h : w.cell? p = some (.slice a n c)) : (Instr.loadAt 35 (.pointer (some p))).run Try.prog w = .ok (.slice a n c) w := by go_simp
theorem conv53 {b : Nat} (h : b < 256) (w : World) : (convert 5 3 (.int .u8 (b : Int))).run Try.prog w = .ok (.int .i64 (b : Int)) w := by
  have h1 := IntWalk.i64_in (b : Int) ⟨by omega, by omega⟩
  go_simp
theorem mul16 {b : Nat} (h : b < 256) {xo : Operand} (w : World) : (eqGuard .mul 3 (.const (.int .i64 16)) xo (.int .i64 16) (.int .i64 (b : Int))).run Try.prog w = .ok () w ∧ (binOp .mul 3 (.int .i64 16) (.int .i64 (b : Int))).run Try.prog w = .ok (.int .i64 (16 * (b : Int))) w := by
  have h1 : (b : Int) < 256 := by omega
  exact ⟨rfl, by simp [binOp, go_sem, IntWalk.i64_in _ (show -9223372036854775808 ≤ 16 * (b : Int) ∧ 16 * (b : Int) ≤ 9223372036854775807 by omega)]⟩
theorem addc (c : Int) (b : Nat) (h0 : 0 ≤ c) (h : c + (b : Int) < 1000000) {xo : Operand} (w : World) : (eqGuard .add 3 (.const (.int .i64 c)) xo (.int .i64 c) (.int .i64 (b : Int))).run Try.prog w = .ok () w ∧ (binOp .add 3 (.int .i64 c) (.int .i64 (b : Int))).run Try.prog w = .ok (.int .i64 (c + (b : Int))) w := by
  exact ⟨rfl, by simp [binOp, go_sem, IntWalk.i64_in _ (show -9223372036854775808 ≤ c + (b : Int) ∧ c + (b : Int) ≤ 9223372036854775807 by omega)]⟩
def nth (k : Nat) (v : Value) : Value := match v with
  | .tuple xs => xs.getD k undef
  | _ => undef
theorem nth_0 (a b : Value) : nth 0 (.tuple #[a, b]) = a := rfl
theorem ex2_0 (x y : Value) (w : World) : (Instr.extract (.tuple #[x, y]) 0).run Try.prog w = .ok (nth 0 (.tuple #[x, y])) w := by kernel_rfl
theorem ex2_1 (x y : Value) (w : World) : (Instr.extract (.tuple #[x, y]) 1).run Try.prog w = .ok y w := by kernel_rfl
theorem alloc_50 (w : World) : (Instr.alloc 50 true (.tuple #[])).run Try.prog w = .ok (.pointer (some ⟨w.heap.size, 0, none⟩)) (w.alloc (.cells Rm.none.zeroRow.toArray 50)) := by kernel_rfl
def v0row : List Value := [.int .i64 0, .string ⟨#[]⟩, .int .i64 0, .slice none 0 0, .slice none 0 0, .int .i64 0, .int .i64 0, .int .i64 0, .string ⟨#[]⟩, .string ⟨#[]⟩, .bool false, .bool false, .slice none 0 0, .slice none 0 0, .slice none 0 0, .slice none 0 0]
theorem alloc_52 (w : World) : (Instr.alloc 52 true (.tuple #[])).run Try.prog w = .ok (.pointer (some ⟨w.heap.size, 0, none⟩)) (w.alloc (.cells v0row.toArray 52)) := by kernel_rfl
/-- A view ahead of its links. -/
def vw0 (i : Nat) (R : Rm) : Vw := ⟨handI i, ⟨nameB i, 900 + (i : Int), []⟩, [], 800 + (i : Int), R⟩
def vq0 (s : Rs) : Vs := ⟨none, 0, none, 0, s⟩
theorem build_44 (k : ByteArray) (h : Int) (w : World) : (Instr.build 44 #[(0, .string k), (1, .int .i64 h)]).run Try.prog w = .ok (.agg #[.string k, .int .i64 h, .slice none 0 0]) w := by go_simp
theorem build_52 (i : Nat) (R : Rm) (s : Rs) (w : World) : (Instr.build 52 #[(0, .int .i64 (handI i)), (1, .agg #[.string (nameB i), .int .i64 (900 + (i : Int)), .slice none 0 0]), (3, .int .i64 (800 + (i : Int))), (4, R.v s)]).run Try.prog w = .ok ((vw0 i R).v (vq0 s)) w := by
  unfold Vw.v vw0 vq0 Rm.v
  go_simp
/-- Behind the region that makes a revision. -/
def P9 (w2 : World) (B : Nat) (R : Rm) (β : Nat → Value) (W : World) : Prop := ∃ z s, β 24 = .pointer (some ⟨z, 0, none⟩) ∧ β 20 = .tuple #[R.v s, .int .i64 0] ∧ B ≤ z ∧ Below B w2 W ∧ SVar W z (R.row s) ∧ RevAt W R s ∧ s.from_ B
def P12 (w2 : World) (B : Nat) (row : List Value) (β : Nat → Value) (W : World) : Prop := ∃ z, β 11 = .pointer (some ⟨z, 0, none⟩) ∧ B ≤ z ∧ z < W.heap.size ∧ Below B w2 W ∧ SVar W z row

section
variable {w2 W : World} {bs : List Bool} {β : Nat → Value}
theorem p9_last {l : List En} {R : Rm} (hS : SGL w2 [(19, FE l), (20, FR R), (24, FZ Rm.none.zeroRow)] 3 (P9 w2 w2.heap.size R) bs β W) (b3 : bs[3]? = some false) (b1 : bs[1]? = some true) (b2 : bs[2]? = some true) :
    ∃ w', (Instr.storeAt 50 (β 24) (nth 0 (β 20))).run Try.prog W = .ok () w' ∧ SGL w2 [(19, FE l), (20, FR R), (24, FZ Rm.none.zeroRow)] 3 (P9 w2 w2.heap.size R) (bs.set 3 true) β w' := by
  obtain ⟨iv, h⟩ := hS.pre b3
  obtain ⟨s, e1, hr, hf, hfar⟩ := h.at_ 1 20 _ rfl b1
  obtain ⟨z, e2, hz, hz2, hv⟩ := h.at_ 2 24 _ rfl b2
  have l1 := h.lo 1 (by simp) b1
  have l2 := h.lo 2 (by simp) b2
  have hd := h.dis 1 2 (by simp) (by simp) (by decide) b1 b2
  have hst := hv.store (row' := R.row s) rfl sh50 (R.row_one s)
  have hb : But z W (sput W z (R.row s)) := But.sput W z _ 0
  have hfz : RFar (some z) R s := by
    rcases hd with hd | hd
    · exact hfar z (by omega)
    · exact Rs.far (s := s) hf (by omega)
  refine ⟨sput W z (R.row s), by rw [e1, e2]; exact hst, SGL.last b3 ⟨z, s, e2, e1, by omega, h.bel.trans (hb.below (by omega) h.bel.size), hv.put rfl, ?_, Rs.from_mono (s := s) hf l1.1⟩⟩
  exact hr.same hfz.1 hfz.2.1 hfz.2.2.1 hfz.2.2.2 hb.size fun j hj hne => hb.block j hj fun e => hne (by rw [e])
theorem p9_tuple {l : List En} {R : Rm} (hS : SGL w2 [(19, FE l), (20, FR R), (24, FZ Rm.none.zeroRow)] 3 (P9 w2 w2.heap.size R) bs β W) (b1 : bs[1]? = some true) : ∃ s : Rs, β 20 = .tuple #[R.v s, .int .i64 0] := by
  rcases hS.tot with b3 | b3
  · obtain ⟨_, _, s, e, -⟩ := hS.get b3 (p := 1) rfl b1
    exact ⟨s, e⟩
  · obtain ⟨_, s, -, e, -⟩ := hS.fin b3
    exact ⟨s, e⟩
theorem p12_last {row : List Value} (hS : SGL w2 [(11, FZ v0row)] 1 (P12 w2 w2.heap.size row) bs β W) (b1 : bs[1]? = some false) (b0 : bs[0]? = some true) {v : Value} (hv : v = .agg row.toArray) (hl : row.length = 16) (h1 : ∀ u ∈ row, u.oneCell' = true) :
    ∃ w', (Instr.storeAt 52 (β 11) v).run Try.prog W = .ok () w' ∧ SGL w2 [(11, FZ v0row)] 1 (P12 w2 w2.heap.size row) (bs.set 1 true) β w' := by
  obtain ⟨iv, h⟩ := hS.pre b1
  obtain ⟨z, e2, hz, -, hs⟩ := h.at_ 0 11 _ rfl b0
  have l1 := h.lo 0 (by simp) b0
  have hst := hs.store (row' := row) (by rw [hl]; rfl) (by rw [hl]; exact sh52) h1
  have hb : But z W (sput W z row) := But.sput W z _ 0
  have hp : SVar (sput W z row) z row := hs.put (by rw [hl]; rfl)
  exact ⟨sput W z row, by rw [e2, hv]; exact hst, SGL.last b1 ⟨z, e2, by omega, hp.lt, h.bel.trans (hb.below (by omega) h.bel.size), hp⟩⟩
end
def cellsL (i k : Nat) : List Int := (List.range k).map (cellI i)
def linksL (hs : List Nat) (i k : Nat) : List Int := (List.range k).map (linkI hs i)
theorem cellsL_succ (i k : Nat) : cellsL i (k + 1) = cellsL i k ++ [cellI i k] := by simp [cellsL, List.range_succ]
theorem linksL_succ (hs : List Nat) (i k : Nat) : linksL hs i (k + 1) = linksL hs i k ++ [linkI hs i k] := by simp [linksL, List.range_succ]
/-- The cells of a view that is being made. -/
def vrowK (i : Nat) (R : Rm) (s : Rs) (kn : Nat) (na : Option Addr) (nc kl : Nat) (la : Option Addr) (lc : Nat) : List Value := [.int .i64 (handI i), .string (nameB i), .int .i64 (900 + (i : Int)), .slice na kn nc, .slice la kl lc, .int .i64 (800 + (i : Int)), .int .i64 R.ver, .int .i64 R.rate, .string R.sp.lo, .string R.sp.hi, .bool R.sp.all, .bool R.dead, .slice s.ka R.l.length s.kc, .slice s.va R.l.length s.vc, .slice s.ga R.l.length s.gc, .slice s.ta R.tab.length s.tc]
theorem vrowK_0 (i : Nat) (R : Rm) (s : Rs) : (vw0 i R).row (vq0 s) = vrowK i R s 0 none 0 0 none 0 := rfl
theorem vrowK_row (l : List Spc) (n i k : Nat) (x : Spc) (s : Rs) (na la : Option Addr) (nc lc : Nat) : (viewI (hts l) n i k x).row ⟨na, nc, la, lc, s⟩ = vrowK i (revI n i x) s k na nc k la lc := by simp [Vw.row, vrowK, viewI]
theorem vrowK_set3 (i : Nat) (R : Rm) (s : Rs) (kn : Nat) (na : Option Addr) (nc kl : Nat) (la : Option Addr) (lc k' : Nat) (a' : Option Addr) (c' : Nat) : (vrowK i R s kn na nc kl la lc).set 3 (.slice a' k' c') = vrowK i R s k' a' c' kl la lc := rfl
theorem vrowK_set4 (i : Nat) (R : Rm) (s : Rs) (kn : Nat) (na : Option Addr) (nc kl : Nat) (la : Option Addr) (lc k' : Nat) (a' : Option Addr) (c' : Nat) : (vrowK i R s kn na nc kl la lc).set 4 (.slice a' k' c') = vrowK i R s kn na nc k' a' c' := rfl
/-- Behind an append to the cells, and behind the store of what it answered. -/
def PA (wv : World) (zv i : Nat) (R : Rm) (s : Rs) (k kn : Nat) (na : Option Addr) (nc kl : Nat) (la : Option Addr) (lc : Nat) (nx ls : List Int) (c : Int) (v : Value) (W : World) : Prop := ∃ a' c', v = .slice a' (k + 1) c' ∧ Vst wv zv (vrowK i R s kn na nc kl la lc) a' (k + 1) c' (nx ++ [c]) la kl lc ls W
def PB (wv : World) (zv i : Nat) (R : Rm) (s : Rs) (k : Nat) (nx : List Int) (la : Option Addr) (kl lc : Nat) (ls : List Int) (W : World) : Prop := ∃ a' c', Vst wv zv (vrowK i R s (k + 1) a' c' kl la lc) a' (k + 1) c' nx la kl lc ls W
def QA (wv : World) (zv i : Nat) (R : Rm) (s : Rs) (k kn : Nat) (na : Option Addr) (nc : Nat) (kl : Nat) (la : Option Addr) (lc : Nat) (nx ls : List Int) (c : Int) (v : Value) (W : World) : Prop := ∃ a' c', v = .slice a' (k + 1) c' ∧ Vst wv zv (vrowK i R s kn na nc kl la lc) na kn nc nx a' (k + 1) c' (ls ++ [c]) W
theorem sk25 : SK 25 52 16 := sk_of (bytes := 248) (z := .agg v0row.toArray) Try.underlying25 (by kernel_rfl) rfl (by decide) (by decide)
/-- What holds of the views that are made, ahead of the i-th. -/
def RowSt (l : List Spc) (w1 : World) (i : Nat) (oa : Option Addr) (oc : Nat) (vl : List (Vw × Vs)) (W : World) : Prop := Below w1.heap.size w1 W ∧ W.ownsRow w1.heap.size 52 16 (.slice oa i oc) i (vrows vl) ∧ (∀ x, x ∈ vl → VAt W x.1 x.2 ∧ VFar (Value.slice oa i oc).ownBlock x.1 x.2) ∧ VIs l i vl
theorem row_step (l : List Spc) (n : Nat) (hn : n = l.length) (hn20 : n ≤ 20) (i : Nat) (hi : i < n) (x : Spc) (hx : l[i]? = some x) (H : Nat) (hH : (hts l)[i]? = some H) (hH6 : H ≤ 6) {w1 wo w5 w6 w7 wr : World} {oa na la : Option Addr} {oc nc lc zv : Nat} {s : Rs} {vl : List (Vw × Vs)}
    (hX : RowSt l w1 i oa oc vl wo) (h5 : Below wo.heap.size wo w5 ∧ wo.heap.size ≤ w5.heap.size) (h6 : Below w5.heap.size w5 w6 ∧ RevAt w6 (revI n i x) s ∧ s.from_ w5.heap.size) (h7 : Below w6.heap.size w6 w7 ∧ w6.heap.size ≤ zv)
    (hV : Vst w7 zv (vrowK i (revI n i x) s H na nc H la lc) na H nc (cellsL i H) la H lc (linksL (hts l) i H) wr) :
    ∀ ty, ∃ v' w', (Builtin.append_ #[25, 25] ty #[.slice oa i oc, .slice (some ⟨wr.heap.size, 0, none⟩) 1 1]).run Try.prog (wr.alloc (.cells (vrowK i (revI n i x) s H na nc H la lc).toArray 52)) = .ok v' w' ∧ ∃ a' c', v' = .slice a' (i + 1) c' ∧ ∃ vl', RowSt l w1 (i + 1) a' c' vl' w' := fun ty => by
  have z6 := h6.1.size
  have z7 := h7.1.size
  have hb6 : Below w6.heap.size w6 wr := h7.1.trans (hV.but.below h7.2 z7)
  have hbo : Below wo.heap.size wo wr := h5.1.trans ((h6.1.mono h5.2).trans (hb6.mono (by omega)))
  have zo := hbo.size
  have z1 := hX.1.size
  have hba := al_below wr (.cells (vrowK i (revI n i x) s H na nc H la lc).toArray 52)
  obtain ⟨a', c', w', r1, r2, r3, r4, r5, r6⟩ := sk25.app (own_later (own_later hX.2.1 hbo) hba) (by have := hba.size; omega) wr.heap.size (vrowK i (revI n i x) s H na nc H la lc) (snew _ _ _).at_ rfl (by rw [← vrowK_row l]; exact Vw.row_one _ _) (by omega) ty
  obtain ⟨wb, hwb⟩ : ∃ W, W = wr.alloc (.cells (vrowK i (revI n i x) s H na nc H la lc).toArray 52) := ⟨_, rfl⟩
  rw [← hwb] at hba r1 r3 r4 r5 r6 ⊢
  have hlt := World.ownsRow.lt hX.2.1
  -- the new view
  have vn : VAt wb (viewI (hts l) n i H x) ⟨na, nc, la, lc, s⟩ := by
    obtain ⟨a1, q1, e1, -, hr1⟩ := own_row hV.n1
    obtain ⟨a2, q2, e2, -, hr2⟩ := own_row hV.n2
    cases e1; cases e2
    exact ⟨hr1.later hba, hr2.later hba, (h6.2.1.below hb6).below hba, by simp [viewI]; omega, by simp [viewI]; omega⟩
  have fn : VFar (Value.slice oa i oc).ownBlock (viewI (hts l) n i H x) ⟨na, nc, la, lc, s⟩ := by
    cases hg : (Value.slice oa i oc).ownBlock with
    | none => exact ⟨far_none, far_none, far_none, far_none, far_none, far_none⟩
    | some g =>
      have hgo := (hlt g hg).2
      have f1 : ∀ (a : Option Addr) (c m : Nat) (v : List Value), wr.ownsRow w7.heap.size 3 1 (.slice a m c) m v → ∀ x, a = some x → w7.heap.size ≤ x.block := fun a c m v ho y hy => by
        have := (World.ownsRow.lt ho y.block (by rw [hy]; rfl)).1
        exact this
      have hr := Rs.far (R := revI n i x) (s := s) h6.2.2 (b := g) (by omega)
      exact ⟨far_of (f1 _ _ _ _ hV.n1) (by omega), far_of (f1 _ _ _ _ hV.n2) (by omega), hr.1, hr.2.1, hr.2.2.1, hr.2.2.2⟩
  refine ⟨_, w', r1, a', c', rfl, vl ++ [(viewI (hts l) n i H x, ⟨na, nc, la, lc, s⟩)], ?_, ?_, ?_, ?_⟩
  · exact (hX.1.trans ((hbo.mono (by omega)).trans (hba.mono (by omega)))).trans r4
  · have e : vrows (vl ++ [(viewI (hts l) n i H x, ⟨na, nc, la, lc, s⟩)]) = vrows vl ++ vrowK i (revI n i x) s H na nc H la lc := by
      rw [← vrowK_row l]; simp [vrows]
    rw [e]
    exact r2
  · have two : ∀ y : Vw × Vs, VAt wb y.1 y.2 → VFar (Value.slice oa i oc).ownBlock y.1 y.2 → VAt w' y.1 y.2 ∧ VFar (Value.slice a' (i + 1) c').ownBlock y.1 y.2 := fun y hy hf => by
      refine ⟨hy.same hf r3 r5, ?_⟩
      rcases r6 with e | e
      · rw [e]; exact hf
      · rw [e]; exact hy.far (Nat.le_refl _)
    intro y hy
    rcases List.mem_append.1 hy with hy | hy
    · obtain ⟨q1, q2⟩ := hX.2.2.1 y hy
      exact two y ((q1.later hbo).later hba) q2
    · simp only [List.mem_cons, List.not_mem_nil, or_false] at hy
      subst hy
      exact two _ vn fn
  · obtain ⟨q1, q2⟩ := hX.2.2.2
    refine ⟨by rw [List.length_append, q1]; rfl, fun j y hj hy => ?_⟩
    by_cases e : j = i
    · subst e
      rw [hx] at hy
      cases hy
      refine ⟨⟨na, nc, la, lc, s⟩, ?_⟩
      rw [List.getElem?_append_right (by omega), q1, Nat.sub_self, List.getD_eq_getElem?_getD, hH, ← hn]
      rfl
    · obtain ⟨q, hq⟩ := q2 j y (by omega) hy
      exact ⟨q, by rw [List.getElem?_append_left (by omega)]; exact hq⟩
set_option maxHeartbeats 4000000 in
theorem row_any (w : World) (a : Option Addr) (cap : Nat) (l : List Spc) (h : Specs w a l) (h0 : 1 ≤ l.length) (hl : l.length ≤ 20) :
    Calls Try.prog 9 #[.slice a l.length cap] w fun e w' => ∃ va vc vl, e = .returned (.tuple #[.slice va l.length vc, .bool true]) ∧ VIs l l.length vl ∧ VRow w' va vl ∧ l.length ≤ vc ∧ Below w.heap.size w w' := by
  have hh := heights_any w a cap l h (by omega)
  obtain ⟨n, hn⟩ : ∃ n, n = l.length := ⟨_, rfl⟩
  have HN := Lib.hid hn
  have HR := Lib.hid h
  rw [← hn] at hl h0 hh ⊢
  have hn2 : (n : Int) ≤ 20 := by omega
  have mixed : Try.prog.follows .mixedOrders = true := by kernel_rfl
  clear hn h
  go_enter Try.func9, Try.ntmps9
  go_wp2_with fail
  refine hh.mono ?_
  rintro e w1 ⟨hv, rfl, ho, hb1⟩
  obtain ⟨ha, hc, rfl, hac, hrw⟩ := own_row ho
  obtain ⟨gh, oh, rfl, hgl, hrh⟩ : ∃ gh oh, ha = some ⟨gh, oh, none⟩ ∧ gh < w1.heap.size ∧ w1.rangeAt gh oh (ints (nz (hts l))) := by
    rcases hrw with e | h
    · have h1 := ho.1
      rw [e] at h1
      simp at h1
      omega
    · exact h
  have HH := Lib.hid (⟨hgl, hrh⟩ : _ ∧ _)
  have HB1 := Lib.hid hb1
  clear hh ho hrw hb1 hgl hrh
  go_wp2_with fail
  go_loopw [5, 6] (fun ov iv wr => ∃ (i : Nat) (oa : Option Addr) (oc : Nat) (vl : List (Vw × Vs)), iv = .int .i64 (i : Int) ∧ ov = .slice oa i oc ∧ i ≤ n ∧ Hid (RowSt l w1 i oa oc vl wr)) (fun _ iv _ => n - (intOf iv).toNat)
  case atStart => exact ⟨0, none, 0, [], rfl, rfl, Nat.zero_le _, Lib.hid ⟨Below.refl _ _, World.ownsRow_nil _ _ _ _, fun x hx => (by cases hx), rfl, fun i x hi => absurd hi (Nat.not_lt_zero _)⟩⟩
  case round =>
    obtain ⟨i, oa, oc, vl, rfl, rfl, hi, HX⟩ := hrel
    obtain ⟨wo, hwo⟩ : ∃ wo, wo = wr := ⟨_, rfl⟩
    subst hwo
    by_cases hlt : i < n
    · have hlt2 : (i : Int) < (n : Int) := by omega
      obtain ⟨x, hx⟩ : ∃ x, l[i]? = some x := ⟨_, List.getElem?_eq_getElem (by rw [← HN.out]; exact hlt)⟩
      have hRr := HR.out.later (HB1.out.trans (HX.out.1.mono HB1.out.size))
      obtain ⟨g, o, ea, hgl, hcx⟩ := hRr.at_ hx
      have hok := hRr.ok x (List.mem_of_getElem? hx)
      have hnm := name_any i (by omega) wo
      have HXx := Lib.hid hx
      have HG := Lib.hid (⟨hgl, hcx⟩ : _ ∧ _)
      have HK := Lib.hid (⟨hlt, hok, hok.2.1, hok.2.2.1, (by omega : i ≤ 100)⟩ : i < n ∧ x.Ok ∧ x.ver < 256 ∧ x.rate < 256 ∧ i ≤ 100)
      obtain ⟨H, hH⟩ : ∃ H, (hts l)[i]? = some H := ⟨_, List.getElem?_eq_getElem (by rw [hts_length, ← HN.out]; exact hlt)⟩
      have hH6 : H ≤ 6 := (hts_in (List.mem_of_getElem? hH)).2.2
      have HHi := Lib.hid hH
      subst ea
      clear hx hRr hgl hcx hok hH
      go_wp2_with fail
      refine hnm.mono ?_
      rintro e w2 ⟨rfl, hb2⟩
      by_cases hln : i + 1 < n
      · have hln2 : (i : Int) < (n : Int) - 1 := by omega
        have hlq : ((i : Int) == (n : Int) - 1) = false := by rw [beq_eq_false_iff_ne]; omega
        have hnm2 := name_any (i + 1) (by omega) (w2.alloc (.cells #[.string (nameB i), .string ⟨#[]⟩, .bool false] 46))
        have HB2 := Lib.hid hb2
        clear hnm hb2
        obtain ⟨nmi, hnmi⟩ : ∃ m, m = nameB i := ⟨_, rfl⟩
        rw [← hnmi] at hnm2 ⊢
        have HNm := Lib.hid hnmi
        clear hnmi
        go_wp2_with fail
        refine hnm2.mono ?_
        rintro e w4 ⟨rfl, hb4⟩
        have sv0 := (snew w2 [.string nmi, .string ⟨#[]⟩, .bool false] 46).later hb4
        have c1 := sv0.cell (i := 1) rfl
        have f1 := sv0.fz 1
        have hzz : (w2.alloc (.cells #[.string nmi, .string ⟨#[]⟩, .bool false] 46)).heap.size = w2.heap.size + 1 := by simp
        have hba := al_below w2 (.cells #[.string nmi, .string ⟨#[]⟩, .bool false] 46)
        have HSV := Lib.hid (⟨sv0, hba.trans (hb4.mono (by omega))⟩ : _ ∧ _)
        clear sv0 hb4 hnm2 hzz hba
        obtain ⟨nmj, hnmj⟩ : ∃ m, m = nameB (i + 1) := ⟨_, rfl⟩
        rw [← hnmj]
        have HNj := Lib.hid hnmj
        clear hnmj
        go_wp2_with fail
        obtain ⟨w5, hw5⟩ : ∃ W, W = w4.setCell ⟨w2.heap.size, 1, none⟩ (.string nmj) := ⟨_, rfl⟩
        rw [← hw5]
        obtain ⟨zs, hzs⟩ : ∃ z, z = w2.heap.size := ⟨_, rfl⟩
        rw [← hzs]
        have hs5 : SVar w5 zs [.string (spanI n i).lo, .string (spanI n i).hi, .bool (spanI n i).all] := by
          have e2 : [Value.string (spanI n i).lo, .string (spanI n i).hi, .bool (spanI n i).all] = [.string nmi, .string nmj, .bool false] := by
            rw [HNm.out, HNj.out]; simp [spanI, hln]; omega
          rw [e2, hw5, hzs]
          exact HSV.out.1.set (i := 1) (by simp) _
        have hb5 : Below wo.heap.size wo w5 := by
          rw [hw5]
          have h1 := HB2.out.trans (HSV.out.2.mono HB2.out.size)
          have h2 := ((But.refl w2.heap.size w4).set 1 (.string nmj)).below HB2.out.size h1.size
          exact h1.trans h2
        clear hw5 HSV HB2 c1 f1 hlq hln2 HNm HNj hzs
        have hz5 : wo.heap.size ≤ w5.heap.size := hb5.size
        have HS5 : Hid (∀ W, Below w5.heap.size w5 W → SVar W zs [.string (spanI n i).lo, .string (spanI n i).hi, .bool (spanI n i).all] ∧ W.rangeAt g (o + i * 6) x.cells) := Lib.hid fun W hW => ⟨hs5.later hW, rangeAt_same HG.out.2 ((hW.block g (Nat.lt_of_lt_of_le HG.out.1 hz5)).trans (hb5.block g HG.out.1))⟩
        have HC9 : Hid ((∀ W, Below w5.heap.size w5 W → Calls Try.prog 31 #[.int .i64 (i : Int), x.v] W fun e w' => ∃ u, e = .returned u ∧ Below W.heap.size W w' ∧ FE (entL i x) u W.heap.size w'.heap.size w') ∧ (∀ W, Below w5.heap.size w5 W → ∀ v, (∃ lo hi, FE (entL i x) v lo hi W) → Calls Try.prog 30 #[.int .i64 (x.ver : Int), .int .i64 (16 * (x.rate : Int)), (spanI n i).v, v] W fun e w' => ∃ u, e = .returned u ∧ Below W.heap.size W w' ∧ FR (revI n i x) u W.heap.size w'.heap.size w')) := by
          refine Lib.hid ⟨fun W _ => (lentries_any i HK.out.2.2.2.2 x HK.out.2.1 W).mono ?_, fun W _ v hv => ?_⟩
          · rintro e w' ⟨v, rfl, ho, hb⟩
            obtain ⟨a', c', e1, hE, -⟩ := OwnE.ents (T := 77) ho
            exact ⟨v, rfl, hb, a', c', e1, hE⟩
          · obtain ⟨_, _, a', c', rfl, hE⟩ := hv
            refine (new_any _ _ (spanI n i) a' (entL i x) c' W (ent_few i x) (ent_short i x) hE).mono ?_
            rintro e w' ⟨R, s, er, rfl, hr, hf, hb, hor⟩
            rcases hor with ⟨-, rfl, rfl⟩ | ⟨e0, -⟩
            · exact ⟨_, rfl, hb, fr_of (R := revI n i x) hr hf⟩
            · rw [ent_right n i x HK.out.1 hl] at e0; cases e0
        have HB5 := Lib.hid (⟨hb5, hz5⟩ : _ ∧ _)
        clear hs5 hb5 hz5
        refine FreeV.region_puts (S := SGL w5 [(19, FE (entL i x)), (20, FR (revI n i x)), (24, FZ Rm.none.zeroRow)] 3 (P9 w5 w5.heap.size (revI n i x))) (effs := [19, 20, 24, 25])
          (tab := [⟨2, fun _ => [.slice (some ⟨g, o, none⟩) n cap, .int .i64 (i : Int)], fun _ => .pointer (some ⟨g, o + i * 6, none⟩), .pure⟩,
            ⟨4, fun _ => [.pointer (some ⟨g, o + i * 6 + 1, none⟩)], fun _ => .int .u8 (x.ver : Int), .read⟩,
            ⟨5, fun _ => [.int .u8 (x.ver : Int)], fun _ => .int .i64 (x.ver : Int), .pure⟩,
            ⟨8, fun _ => [.slice (some ⟨g, o, none⟩) n cap, .int .i64 (i : Int)], fun _ => .pointer (some ⟨g, o + i * 6, none⟩), .pure⟩,
            ⟨10, fun _ => [.pointer (some ⟨g, o + i * 6 + 2, none⟩)], fun _ => .int .u8 (x.rate : Int), .read⟩,
            ⟨11, fun _ => [.int .u8 (x.rate : Int)], fun _ => .int .i64 (x.rate : Int), .pure⟩,
            ⟨12, fun _ => [.int .i64 16, .int .i64 (x.rate : Int)], fun _ => .int .i64 (16 * (x.rate : Int)), .pure⟩,
            ⟨13, fun _ => [.pointer (some ⟨zs, 0, none⟩)], fun _ => (spanI n i).v, .read⟩,
            ⟨17, fun _ => [.slice (some ⟨g, o, none⟩) n cap, .int .i64 (i : Int)], fun _ => .pointer (some ⟨g, o + i * 6, none⟩), .pure⟩,
            ⟨18, fun _ => [.pointer (some ⟨g, o + i * 6, none⟩)], fun _ => x.v, .read⟩,
            ⟨19, fun _ => [.func (.func 31) #[] #[], .int .i64 (i : Int), x.v], fun β => (β 19), .get⟩,
            ⟨20, fun β => [.func (.func 30) #[] #[], .int .i64 (x.ver : Int), .int .i64 (16 * (x.rate : Int)), (spanI n i).v, (β 19)], fun β => (β 20), .get⟩,
            ⟨22, fun β => [(β 20)], fun β => (nth 0 (β 20)), .read⟩,
            ⟨23, fun β => [(β 20)], fun _ => .int .i64 0, .read⟩,
            ⟨24, fun _ => [], fun β => (β 24), .eff⟩,
            ⟨25, fun β => [(β 24), (nth 0 (β 20))], fun _ => undef, .put⟩])
          (vs := [([], fun _ => .slice (some ⟨g, o, none⟩) n cap), ([], fun _ => .int .i64 (i : Int)), ([], fun _ => .pointer (some ⟨g, o + i * 6, none⟩)), ([], fun _ => .pointer (some ⟨g, o + i * 6 + 1, none⟩)), ([], fun _ => .int .u8 (x.ver : Int)), ([], fun _ => .int .i64 (x.ver : Int)), ([], fun _ => .slice (some ⟨g, o, none⟩) n cap), ([], fun _ => .int .i64 (i : Int)), ([], fun _ => .pointer (some ⟨g, o + i * 6, none⟩)), ([], fun _ => .pointer (some ⟨g, o + i * 6 + 2, none⟩)), ([], fun _ => .int .u8 (x.rate : Int)), ([], fun _ => .int .i64 (x.rate : Int)), ([], fun _ => .int .i64 (16 * (x.rate : Int))), ([], fun _ => (spanI n i).v), ([], fun _ => .int .i64 (i : Int)), ([], fun _ => .slice (some ⟨g, o, none⟩) n cap), ([], fun _ => .int .i64 (i : Int)), ([], fun _ => .pointer (some ⟨g, o + i * 6, none⟩)), ([], fun _ => x.v), ([19], fun l => (l.headD undef)), ([20], fun l => (l.headD undef)), ([20], fun l => (l.headD undef)), ([20], fun l => (nth 0 (l.headD undef))), ([], fun _ => .int .i64 0), ([24], fun l => (l.headD undef)), ([], fun _ => undef), ([], fun _ => .int .i64 0)])
          (by kernel_rfl) ⟨by kernel_rfl, ⟨FreeV.d_at _ rfl rfl (fun _ W => at_22 g o n cap i HK.out.1 W),
            FreeV.d_load _ rfl rfl (fun β bs W hS hd => load_5 ((HS5.out W (hS.bel ((hd 3 25 rfl).2 (.inl (by kernel_rfl))))).2 1 _ rfl)),
            d_conv rfl rfl (fun _ W => conv53 HK.out.2.2.1 W),
            FreeV.d_at _ rfl rfl (fun _ W => at_22 g o n cap i HK.out.1 W),
            FreeV.d_load _ rfl rfl (fun β bs W hS hd => load_5 ((HS5.out W (hS.bel ((hd 3 25 rfl).2 (.inl (by kernel_rfl))))).2 2 _ rfl)),
            d_conv rfl rfl (fun _ W => conv53 HK.out.2.2.2.1 W),
            d_binr rfl rfl (fun _ xo W => mul16 HK.out.2.2.2.1 W),
            FreeV.d_load _ rfl rfl (fun β bs W hS hd => (HS5.out W (hS.bel ((hd 3 25 rfl).2 (.inl (by kernel_rfl))))).1.load sh46),
            FreeV.d_at _ rfl rfl (fun _ W => at_22 g o n cap i HK.out.1 W),
            FreeV.d_load _ rfl rfl (fun β bs W hS hd => load_mid (HS5.out W (hS.bel ((hd 3 25 rfl).2 (.inl (by kernel_rfl))))).2 sh66),
            FreeV.d_get2 _ rfl rfl enter_31 0 rfl (fun β bs W hS hd => hS.call ((hd 3 25 rfl).2 (.inl (by kernel_rfl))) (by decide) rfl (HC9.out.1 W (hS.bel ((hd 3 25 rfl).2 (.inl (by kernel_rfl)))))),
            FreeV.d_get4 _ rfl rfl enter_30 1 rfl (fun β bs W hS hd => hS.call ((hd 3 25 rfl).2 (.inl (by kernel_rfl))) (by decide) rfl (HC9.out.2 W (hS.bel ((hd 3 25 rfl).2 (.inl (by kernel_rfl)))) _ (hS.get ((hd 3 25 rfl).2 (.inl (by kernel_rfl))) rfl ((hd 0 19 rfl).1 (by kernel_rfl))))),
            FreeV.d_extract _ rfl rfl (fun β bs W hS hd => by obtain ⟨_, _, s, e, -⟩ := hS.get ((hd 3 25 rfl).2 (.inl (by kernel_rfl))) rfl ((hd 1 20 rfl).1 (by kernel_rfl)); rw [e]; exact ex2_0 _ _ _),
            FreeV.d_extract _ rfl rfl (fun β bs W hS hd => by obtain ⟨s, e⟩ := p9_tuple hS ((hd 1 20 rfl).1 (by kernel_rfl)); rw [e]; exact ex2_1 _ _ _),
            FreeV.d_alloc _ rfl rfl 2 rfl (fun β bs W hS hd => ⟨_, _, alloc_50 W, hS.step ((hd 3 25 rfl).2 (.inl (by kernel_rfl))) (by decide) rfl (al_below _ _) (fz_new W _ _)⟩),
            FreeV.d_store _ rfl rfl 3 rfl (fun β bs W hS hd => p9_last hS ((hd 3 25 rfl).2 (.inr rfl)) ((hd 1 20 rfl).1 (by kernel_rfl)) ((hd 2 24 rfl).1 (by kernel_rfl))),
            trivial⟩,
            fun β => by kernel_rfl, fun β => by kernel_rfl, by kernel_rfl, fun β => by kernel_rfl, by kernel_rfl⟩ (SGL.start 4 (by decide) (st3 (fe_st _) (fr_st _) (fz_st _)) (by simp)) (fun β => Free.from_ 40 [.slice (some ⟨g, o, none⟩) n cap, .int .i64 (i : Int), .pointer (some ⟨g, o + i * 6, none⟩), .pointer (some ⟨g, o + i * 6 + 1, none⟩), .int .u8 (x.ver : Int), .int .i64 (x.ver : Int), .slice (some ⟨g, o, none⟩) n cap, .int .i64 (i : Int), .pointer (some ⟨g, o + i * 6, none⟩), .pointer (some ⟨g, o + i * 6 + 2, none⟩), .int .u8 (x.rate : Int), .int .i64 (x.rate : Int), .int .i64 (16 * (x.rate : Int)), (spanI n i).v, .int .i64 (i : Int), .slice (some ⟨g, o, none⟩) n cap, .int .i64 (i : Int), .pointer (some ⟨g, o + i * 6, none⟩), x.v, (β 19), (β 20)] ++ [(39, (β 20)), (61, (nth 0 (β 20))), (62, .int .i64 0), (8, (β 24)), (9, .int .i64 0)]) (fun β => by kernel_rfl) ?_
        intro β w6 h6
        rw [FreeX.puts_append, Free.puts_from _ _ _ (Nat.le_of_ble_eq_true rfl)]
        simp only [List.take_succ_cons, List.take_zero, List.drop_succ_cons, List.drop_zero, List.cons_append, List.nil_append, List.length_cons, List.length_nil, Nat.reduceAdd]
        unfold Free.puts
        simp only [List.foldl_cons, List.foldl_nil]
        obtain ⟨zr, s, e24, e20, hzr, hb6, sv6, rv6, fr6⟩ := h6.fin rfl
        rw [e24, e20]
        have HS6 : Hid (∀ W, Below w6.heap.size w6 W → SVar W zr ((revI n i x).row s)) := Lib.hid fun W hW => sv6.later hW
        have HB6 := Lib.hid (⟨hb6, rv6, fr6⟩ : _ ∧ _ ∧ _)
        clear h6 e24 e20 hzr hb6 sv6 rv6 fr6 HS5 HC9
        simp only [nth_0]
        go_wp2_with fail
        refine FreeV.region_puts (S := SGL w6 [(11, FZ v0row)] 1 (P12 w6 w6.heap.size ((vw0 i (revI n i x)).row (vq0 s)))) (effs := [11, 12])
          (tab := [⟨1, fun _ => [.func (.func 13) #[] #[], .int .i64 (i : Int)], fun _ => .int .i64 (handI i), .ask⟩,
            ⟨3, fun _ => [.func (.func 29) #[] #[], .int .i64 (i : Int)], fun _ => .string (nameB i), .ask⟩,
            ⟨5, fun _ => [.int .i64 900, .int .i64 (i : Int)], fun _ => .int .i64 (900 + (i : Int)), .pure⟩,
            ⟨6, fun _ => [.string (nameB i), .int .i64 (900 + (i : Int))], fun _ => .agg #[.string (nameB i), .int .i64 (900 + (i : Int)), .slice none 0 0], .pure⟩,
            ⟨8, fun _ => [.int .i64 800, .int .i64 (i : Int)], fun _ => .int .i64 (800 + (i : Int)), .pure⟩,
            ⟨9, fun _ => [.pointer (some ⟨zr, 0, none⟩)], fun _ => ((revI n i x).v s), .read⟩,
            ⟨10, fun _ => [.int .i64 (handI i), .agg #[.string (nameB i), .int .i64 (900 + (i : Int)), .slice none 0 0], .int .i64 (800 + (i : Int)), ((revI n i x).v s)], fun _ => ((vw0 i (revI n i x)).v (vq0 s)), .read⟩,
            ⟨11, fun _ => [], fun β => (β 11), .eff⟩,
            ⟨12, fun β => [(β 11), ((vw0 i (revI n i x)).v (vq0 s))], fun _ => undef, .put⟩])
          (vs := [([], fun _ => .int .i64 (i : Int)), ([], fun _ => .int .i64 (handI i)), ([], fun _ => .int .i64 (i : Int)), ([], fun _ => .string (nameB i)), ([], fun _ => .int .i64 (i : Int)), ([], fun _ => .int .i64 (900 + (i : Int))), ([], fun _ => .agg #[.string (nameB i), .int .i64 (900 + (i : Int)), .slice none 0 0]), ([], fun _ => .int .i64 (i : Int)), ([], fun _ => .int .i64 (800 + (i : Int))), ([], fun _ => ((revI n i x).v s)), ([], fun _ => ((vw0 i (revI n i x)).v (vq0 s))), ([11], fun l => (l.headD undef)), ([], fun _ => undef)])
          (by kernel_rfl) ⟨by kernel_rfl, ⟨FreeV.d_ask1 _ rfl rfl enter_13 (fun β bs W hS hd => (lhandle_any i W).mono fun e w' h => ⟨h.1, h.2 ▸ hS⟩),
            FreeV.d_ask1 _ rfl rfl enter_29 (fun β bs W hS hd => (name_any i HK.out.2.2.2.2 W).mono fun e w' h => ⟨h.1, hS.later ((hd 1 12 rfl).2 (.inl (by kernel_rfl))) h.2⟩),
            d_binr rfl rfl (fun _ xo W => addc 900 i (by decide) (by have := HK.out.2.2.2.2; omega) W),
            FreeV.d_build2 _ rfl rfl (fun _ W => build_44 _ _ W),
            d_binr rfl rfl (fun _ xo W => addc 800 i (by decide) (by have := HK.out.2.2.2.2; omega) W),
            FreeV.d_load _ rfl rfl (fun β bs W hS hd => (HS6.out W (hS.bel ((hd 1 12 rfl).2 (.inl (by kernel_rfl))))).load sh50),
            d_build4 rfl rfl (fun β bs W hS hd => build_52 i _ s W),
            FreeV.d_alloc _ rfl rfl 0 rfl (fun β bs W hS hd => ⟨_, _, alloc_52 W, hS.step ((hd 1 12 rfl).2 (.inl (by kernel_rfl))) (by decide) rfl (al_below _ _) (fz_new W _ _)⟩),
            FreeV.d_store _ rfl rfl 1 rfl (fun β bs W hS hd => p12_last hS ((hd 1 12 rfl).2 (.inr rfl)) ((hd 0 11 rfl).1 (by kernel_rfl)) rfl rfl (Vw.row_one _ _)),
            trivial⟩,
            fun β => by kernel_rfl, fun β => by kernel_rfl, by kernel_rfl, fun β => by kernel_rfl, by kernel_rfl⟩ (SGL.start 2 (by decide) (st1 (fz_st _)) (by simp)) (fun β => Free.from_ 65 [.int .i64 (i : Int), .int .i64 (handI i), .int .i64 (i : Int), .string (nameB i), .int .i64 (i : Int), .int .i64 (900 + (i : Int)), .agg #[.string (nameB i), .int .i64 (900 + (i : Int)), .slice none 0 0], .int .i64 (i : Int), .int .i64 (800 + (i : Int)), ((revI n i x).v s), ((vw0 i (revI n i x)).v (vq0 s))] ++ [(10, (β 11))]) (fun β => by kernel_rfl) ?_
        intro β w7 h7
        rw [FreeX.puts_append, Free.puts_from _ _ _ (Nat.le_of_ble_eq_true rfl)]
        simp only [List.take_succ_cons, List.take_zero, List.drop_succ_cons, List.drop_zero, List.cons_append, List.nil_append, List.length_cons, List.length_nil, Nat.reduceAdd]
        unfold Free.puts
        simp only [List.foldl_cons, List.foldl_nil]
        obtain ⟨zv, e11, hzv, hzl, hb7, sv7⟩ := h7.fin rfl
        rw [e11]
        have hv7 : Vst w7 zv (vrowK i (revI n i x) s 0 none 0 0 none 0) none 0 0 (cellsL i 0) none 0 0 (linksL (hts l) i 0) w7 := ⟨But.refl _ _, sv7, hzl, World.ownsRow_nil _ _ _ _, World.ownsRow_nil _ _ _ _, fun g e => (by cases e)⟩
        have HB7 := Lib.hid (⟨hb7, hzv⟩ : _ ∧ _)
        have HV7 := Lib.hid hv7
        clear h7 e11 hzv hzl hb7 sv7 hv7 HS6
        go_wp2_with fail
        have hgw : w7.rangeAt gh oh (ints (nz (hts l))) := by
          have h2 : gh < wo.heap.size := Nat.lt_of_lt_of_le HH.out.1 HX.out.1.size
          have h3 := HB5.out.2
          have h4 := HB6.out.1.size
          exact rangeAt_same HH.out.2 ((HB7.out.1.block gh (by omega)).trans ((HB6.out.1.block gh (by omega)).trans ((HB5.out.1.block gh h2).trans (HX.out.1.block gh HH.out.1))))
        have hgz : gh ≠ zv := by
          have := HH.out.1
          have := HX.out.1.size
          have h3 := HB5.out.2
          have h4 := HB6.out.1.size
          have := HB7.out.2
          omega
        have hgl7 : gh < w7.heap.size := by
          have := HH.out.1
          have := HX.out.1.size
          have h3 := HB5.out.2
          have h4 := HB6.out.1.size
          have := HB7.out.1.size
          omega
        have HHs := Lib.hid (⟨hgw, hgz, hgl7⟩ : _ ∧ _ ∧ _)
        clear hgw hgz hgl7
        go_loopw [11] (fun kv W => ∃ (k : Nat) (na : Option Addr) (nc : Nat) (la : Option Addr) (lc : Nat), kv = .int .i64 (k : Int) ∧ k ≤ H ∧ Hid (Vst w7 zv (vrowK i (revI n i x) s k na nc k la lc) na k nc (cellsL i k) la k lc (linksL (hts l) i k) W)) (fun kv _ => H - (intOf kv).toNat)
        case atStart => exact ⟨0, none, 0, none, 0, rfl, Nat.zero_le _, HV7⟩
        case round =>
          obtain ⟨k, na, nc, la, lc, rfl, hk, HV⟩ := hrel
          have hrg : wr.rangeAt gh oh (ints (nz (hts l))) := rangeAt_same HHs.out.1 (HV.out.but.block gh HHs.out.2.2 HHs.out.2.1)
          have ch : wr.cell? ⟨gh, oh + i, none⟩ = some (.int .i64 (H : Int)) := hrg i _ (ints_get (nz_get HHi.out))
          have hrt := refTo_any wr (some ⟨gh, oh, none⟩) hc (hts l) (by rw [hts_length, ← HN.out]; omega) (.inr ⟨gh, oh, rfl, Nat.lt_of_lt_of_le HHs.out.2.2 HV.out.but.size, hrg⟩) i (by omega) (k : Int)
          rw [hts_length, ← HN.out] at hrt
          clear hrg
          by_cases hkH : k < H
          · have hkH2 : (k : Int) < (H : Int) := by omega
            have hk6 : (k : Int) < 6 := by omega
            have HK2 : Hid (i ≤ 1000000 ∧ k ≤ 1000000 ∧ k + 1 ≤ 1000000 ∧ 5 + (k : Int) < 1000000) := by refine Lib.hid ⟨by omega, by omega, by omega, by omega⟩
            obtain ⟨F, hF⟩ : ∃ F, F = firstH (hts l) (k : Int) (i + 1) := ⟨_, rfl⟩
            have HF := Lib.hid hF
            rw [← hF] at hrt
            clear hF
            go_wp2_with fail
            refine hrt.mono ?_
            rintro e w2 ⟨rfl, rfl⟩
            clear hrt ch
            cases F with
            | none =>
              have hLk : Hid (linkI (hts l) i k = tword 0 (5 + (k : Int))) := Lib.hid (by unfold linkI; rw [← HF.out]; rfl)
              clear HF
              have ef : ofO none = -1 := rfl
              rw [ef]
              clear ef
              go_wp2_with fail
              have HA1 : Hid (∀ W, Below wr.heap.size wr W → ∀ g, W.rangeAt g 0 [.int .i64 (cellI i k)] → ∀ ty, ∃ v' w', (Builtin.append_ #[35, 35] ty #[.slice na k nc, .slice (some ⟨g, 0, none⟩) 1 1]).run Try.prog W = .ok v' w' ∧ PA w7 zv i (revI n i x) s k k na nc k la lc (cellsL i k) (linksL (hts l) i k) (cellI i k) v' w') := Lib.hid fun W hW g hg ty => (HV.out.later hW).app1 (cellI i k) g hg HK2.out.2.2.1 ty
              have HS1 : Hid (∀ v' W, PA w7 zv i (revI n i x) s k k na nc k la lc (cellsL i k) (linksL (hts l) i k) (cellI i k) v' W → ∃ w', (Instr.storeAt 35 (.pointer (some ⟨zv, 3, none⟩)) v').run Try.prog W = .ok () w' ∧ PB w7 zv i (revI n i x) s k (cellsL i (k + 1)) la k lc (linksL (hts l) i k) w') := Lib.hid fun v' W hP => by
                obtain ⟨a', c', rfl, hV⟩ := hP
                refine ⟨_, st_35 a' (k + 1) c' (hV.var.cell (i := 3) rfl) (hV.var.fz 3), a', c', ?_⟩
                have h1 := hV.put (i := 3) (by simp [vrowK]) (.slice a' (k + 1) c')
                rw [vrowK_set3] at h1
                rw [cellsL_succ]
                exact h1
              refine FreeV.region_puts (S := LA wr [.int .i64 (cellI i k)] 6 7 (PA w7 zv i (revI n i x) s k k na nc k la lc (cellsL i k) (linksL (hts l) i k) (cellI i k)) (PB w7 zv i (revI n i x) s k (cellsL i (k + 1)) la k lc (linksL (hts l) i k))) (effs := [6, 7, 10])
                (tab := [⟨2, fun _ => [.pointer (some ⟨zv, 3, none⟩)], fun _ => .slice na k nc, .read⟩,
                  ⟨5, fun _ => [.func (.func 19) #[] #[], .int .i64 (i : Int), .int .i64 (k : Int)], fun _ => .int .i64 (cellI i k), .ask⟩,
                  ⟨6, fun _ => [.int .i64 (cellI i k)], fun β => (β 6), .eff⟩,
                  ⟨7, fun β => [.slice na k nc, (β 6)], fun β => (β 7), .eff⟩,
                  ⟨10, fun β => [.pointer (some ⟨zv, 3, none⟩), (β 7)], fun _ => undef, .put⟩])
                (vs := [([], fun _ => .pointer (some ⟨zv, 1, none⟩)), ([], fun _ => .pointer (some ⟨zv, 3, none⟩)), ([], fun _ => .slice na k nc), ([], fun _ => .int .i64 (i : Int)), ([], fun _ => .int .i64 (k : Int)), ([], fun _ => .int .i64 (cellI i k)), ([6], fun l => (l.headD undef)), ([7], fun l => (l.headD undef)), ([], fun _ => .pointer (some ⟨zv, 1, none⟩)), ([], fun _ => .pointer (some ⟨zv, 3, none⟩)), ([], fun _ => undef)])
                (by kernel_rfl) ⟨by kernel_rfl, ⟨FreeV.d_load _ rfl rfl (fun β bs W hS hd => load_35 ((HV.out.later (hS.bel ((hd 1 7 rfl).2 (.inl (by kernel_rfl))))).var.cell (i := 3) rfl)),
                  FreeV.d_ask2 _ rfl rfl enter_19 (fun β bs W hS hd => (cell_any i k HK2.out.1 HK2.out.2.1 W).mono fun e w' h => ⟨h.1, h.2 ▸ hS⟩),
                  FreeV.d_row1 _ rfl rfl 0 rfl (fun β bs W hS hd => la_row hS ((hd 0 6 rfl).2 (.inr rfl)) 35 3 _ (row35 W _)),
                  FreeV.d_app _ rfl rfl 1 rfl (fun β bs ty W hS hd => la_app hS ((hd 0 6 rfl).1 (by kernel_rfl)) ((hd 1 7 rfl).2 (.inr rfl)) HA1.out),
                  FreeV.d_store _ rfl rfl 2 rfl (fun β bs W hS hd => la_store hS ((hd 1 7 rfl).1 (by kernel_rfl)) ((hd 2 10 rfl).2 (.inr rfl)) HS1.out),
                  trivial⟩,
                  fun β => by kernel_rfl, fun β => by kernel_rfl, by kernel_rfl, fun β => by kernel_rfl, by kernel_rfl⟩ la_start (fun β => Free.from_ 92 [.pointer (some ⟨zv, 1, none⟩), .pointer (some ⟨zv, 3, none⟩), .slice na k nc, .int .i64 (i : Int), .int .i64 (k : Int), .int .i64 (cellI i k), (β 6), (β 7), .pointer (some ⟨zv, 1, none⟩), .pointer (some ⟨zv, 3, none⟩)]) (fun β => by kernel_rfl) ?_
              intro β w8 h8
              rw [Free.puts_from _ _ _ (Nat.le_of_ble_eq_true rfl)]
              simp only [List.take_succ_cons, List.take_zero, List.drop_succ_cons, List.drop_zero, List.cons_append, List.nil_append, List.length_cons, List.length_nil, Nat.reduceAdd]
              obtain ⟨na1, nc1, hV1⟩ := h8.four rfl
              have HV1 := Lib.hid hV1
              clear h8 hV1 HA1 HS1 HV
              go_wp2_with fail
              have HA2 : Hid (∀ W, Below w8.heap.size w8 W → ∀ g, W.rangeAt g 0 [.int .i64 (tword 0 (5 + (k : Int)))] → ∀ ty, ∃ v' w', (Builtin.append_ #[35, 35] ty #[.slice la k lc, .slice (some ⟨g, 0, none⟩) 1 1]).run Try.prog W = .ok v' w' ∧ QA w7 zv i (revI n i x) s k (k + 1) na1 nc1 k la lc (cellsL i (k + 1)) (linksL (hts l) i k) (tword 0 (5 + (k : Int))) v' w') := Lib.hid fun W hW g hg ty => (HV1.out.later hW).app2 _ g hg HK2.out.2.2.1 ty
              have HS2 : Hid (∀ v' W, QA w7 zv i (revI n i x) s k (k + 1) na1 nc1 k la lc (cellsL i (k + 1)) (linksL (hts l) i k) (tword 0 (5 + (k : Int))) v' W → ∃ w', (Instr.storeAt 35 (.pointer (some ⟨zv, 4, none⟩)) v').run Try.prog W = .ok () w' ∧ ∃ la1 lc1, Vst w7 zv (vrowK i (revI n i x) s (k + 1) na1 nc1 (k + 1) la1 lc1) na1 (k + 1) nc1 (cellsL i (k + 1)) la1 (k + 1) lc1 (linksL (hts l) i (k + 1)) w') := Lib.hid fun v' W hP => by
                obtain ⟨a', c', rfl, hV⟩ := hP
                refine ⟨_, st_35 a' (k + 1) c' (hV.var.cell (i := 4) rfl) (hV.var.fz 4), a', c', ?_⟩
                have h1 := hV.put (i := 4) (by simp [vrowK]) (.slice a' (k + 1) c')
                rw [vrowK_set4] at h1
                rw [linksL_succ, hLk.out]
                exact h1
              have htw := fun w => tword_any 0 (5 + (k : Int)) w
              have HTw := Lib.hid htw
              clear htw
              refine FreeV.region_puts (S := LA w8 [.int .i64 (tword 0 (5 + (k : Int)))] 6 7 (QA w7 zv i (revI n i x) s k (k + 1) na1 nc1 k la lc (cellsL i (k + 1)) (linksL (hts l) i k) (tword 0 (5 + (k : Int)))) (fun W => ∃ la1 lc1, Vst w7 zv (vrowK i (revI n i x) s (k + 1) na1 nc1 (k + 1) la1 lc1) na1 (k + 1) nc1 (cellsL i (k + 1)) la1 (k + 1) lc1 (linksL (hts l) i (k + 1)) W)) (effs := [6, 7, 9])
                (tab := [⟨1, fun _ => [.pointer (some ⟨zv, 4, none⟩)], fun _ => .slice la k lc, .read⟩,
                  ⟨4, fun _ => [.int .i64 5, .int .i64 (k : Int)], fun _ => .int .i64 (5 + (k : Int)), .pure⟩,
                  ⟨5, fun _ => [.func (.func 16) #[] #[], .int .i64 0, .int .i64 (5 + (k : Int))], fun _ => .int .i64 (tword 0 (5 + (k : Int))), .ask⟩,
                  ⟨6, fun _ => [.int .i64 (tword 0 (5 + (k : Int)))], fun β => (β 6), .eff⟩,
                  ⟨7, fun β => [.slice la k lc, (β 6)], fun β => (β 7), .eff⟩,
                  ⟨9, fun β => [.pointer (some ⟨zv, 4, none⟩), (β 7)], fun _ => undef, .put⟩])
                (vs := [([], fun _ => .pointer (some ⟨zv, 4, none⟩)), ([], fun _ => .slice la k lc), ([], fun _ => .int .i64 0), ([], fun _ => .int .i64 (k : Int)), ([], fun _ => .int .i64 (5 + (k : Int))), ([], fun _ => .int .i64 (tword 0 (5 + (k : Int)))), ([6], fun l => (l.headD undef)), ([7], fun l => (l.headD undef)), ([], fun _ => .pointer (some ⟨zv, 4, none⟩)), ([], fun _ => undef)])
                (by kernel_rfl) ⟨by kernel_rfl, ⟨FreeV.d_load _ rfl rfl (fun β bs W hS hd => load_35 ((HV1.out.later (hS.bel ((hd 1 7 rfl).2 (.inl (by kernel_rfl))))).var.cell (i := 4) rfl)),
                  d_binr rfl rfl (fun _ xo W => addc 5 k (by decide) HK2.out.2.2.2 W),
                  FreeV.d_ask2 _ rfl rfl enter_16 (fun β bs W hS hd => (HTw.out W).mono fun e w' h => ⟨h.1, h.2 ▸ hS⟩),
                  FreeV.d_row1 _ rfl rfl 0 rfl (fun β bs W hS hd => la_row hS ((hd 0 6 rfl).2 (.inr rfl)) 35 3 _ (row35 W _)),
                  FreeV.d_app _ rfl rfl 1 rfl (fun β bs ty W hS hd => la_app hS ((hd 0 6 rfl).1 (by kernel_rfl)) ((hd 1 7 rfl).2 (.inr rfl)) HA2.out),
                  FreeV.d_store _ rfl rfl 2 rfl (fun β bs W hS hd => la_store hS ((hd 1 7 rfl).1 (by kernel_rfl)) ((hd 2 9 rfl).2 (.inr rfl)) HS2.out),
                  trivial⟩,
                  fun β => by kernel_rfl, fun β => by kernel_rfl, by kernel_rfl, fun β => by kernel_rfl, by kernel_rfl⟩ la_start (fun β => Free.from_ 102 [.pointer (some ⟨zv, 4, none⟩), .slice la k lc, .int .i64 0, .int .i64 (k : Int), .int .i64 (5 + (k : Int)), .int .i64 (tword 0 (5 + (k : Int))), (β 6), (β 7), .pointer (some ⟨zv, 4, none⟩)]) (fun β => by kernel_rfl) ?_
              intro β w9 h9
              rw [Free.puts_from _ _ _ (Nat.le_of_ble_eq_true rfl)]
              simp only [List.take_succ_cons, List.take_zero, List.drop_succ_cons, List.drop_zero, List.cons_append, List.nil_append, List.length_cons, List.length_nil, Nat.reduceAdd]
              obtain ⟨la1, lc1, hV2⟩ := h9.four rfl
              have HV2 := Lib.hid hV2
              clear h9 hV2 HA2 HS2 HV1 HTw
              go_wp2_with fail
              exact ⟨⟨k + 1, na1, nc1, la1, lc1, by simp, by omega, HV2⟩, by simp only [intOf]; omega⟩
            | some j =>
              have hj20 : j < n := by
                have := firstH_some HF.out.symm
                rw [hts_length, ← HN.out] at this
                exact this.2
              have hlh := fun w => lhandle_any j w
              have hLk : Hid (linkI (hts l) i k = tword (handI j) (5 + (k : Int))) := Lib.hid (by unfold linkI; rw [← HF.out]; rfl)
              clear HF
              have ef : ofO (some j) = (j : Int) := rfl
              have hj0 : (0 : Int) ≤ (j : Int) := by omega
              rw [ef]
              clear ef
              go_wp2_with fail
              refine (hlh _).mono ?_
              rintro e w2 ⟨rfl, rfl⟩
              clear hlh
              go_wp2_with fail
              have HA1 : Hid (∀ W, Below wr.heap.size wr W → ∀ g, W.rangeAt g 0 [.int .i64 (cellI i k)] → ∀ ty, ∃ v' w', (Builtin.append_ #[35, 35] ty #[.slice na k nc, .slice (some ⟨g, 0, none⟩) 1 1]).run Try.prog W = .ok v' w' ∧ PA w7 zv i (revI n i x) s k k na nc k la lc (cellsL i k) (linksL (hts l) i k) (cellI i k) v' w') := Lib.hid fun W hW g hg ty => (HV.out.later hW).app1 (cellI i k) g hg HK2.out.2.2.1 ty
              have HS1 : Hid (∀ v' W, PA w7 zv i (revI n i x) s k k na nc k la lc (cellsL i k) (linksL (hts l) i k) (cellI i k) v' W → ∃ w', (Instr.storeAt 35 (.pointer (some ⟨zv, 3, none⟩)) v').run Try.prog W = .ok () w' ∧ PB w7 zv i (revI n i x) s k (cellsL i (k + 1)) la k lc (linksL (hts l) i k) w') := Lib.hid fun v' W hP => by
                obtain ⟨a', c', rfl, hV⟩ := hP
                refine ⟨_, st_35 a' (k + 1) c' (hV.var.cell (i := 3) rfl) (hV.var.fz 3), a', c', ?_⟩
                have h1 := hV.put (i := 3) (by simp [vrowK]) (.slice a' (k + 1) c')
                rw [vrowK_set3] at h1
                rw [cellsL_succ]
                exact h1
              refine FreeV.region_puts (S := LA wr [.int .i64 (cellI i k)] 6 7 (PA w7 zv i (revI n i x) s k k na nc k la lc (cellsL i k) (linksL (hts l) i k) (cellI i k)) (PB w7 zv i (revI n i x) s k (cellsL i (k + 1)) la k lc (linksL (hts l) i k))) (effs := [6, 7, 10])
                (tab := [⟨2, fun _ => [.pointer (some ⟨zv, 3, none⟩)], fun _ => .slice na k nc, .read⟩,
                  ⟨5, fun _ => [.func (.func 19) #[] #[], .int .i64 (i : Int), .int .i64 (k : Int)], fun _ => .int .i64 (cellI i k), .ask⟩,
                  ⟨6, fun _ => [.int .i64 (cellI i k)], fun β => (β 6), .eff⟩,
                  ⟨7, fun β => [.slice na k nc, (β 6)], fun β => (β 7), .eff⟩,
                  ⟨10, fun β => [.pointer (some ⟨zv, 3, none⟩), (β 7)], fun _ => undef, .put⟩])
                (vs := [([], fun _ => .pointer (some ⟨zv, 1, none⟩)), ([], fun _ => .pointer (some ⟨zv, 3, none⟩)), ([], fun _ => .slice na k nc), ([], fun _ => .int .i64 (i : Int)), ([], fun _ => .int .i64 (k : Int)), ([], fun _ => .int .i64 (cellI i k)), ([6], fun l => (l.headD undef)), ([7], fun l => (l.headD undef)), ([], fun _ => .pointer (some ⟨zv, 1, none⟩)), ([], fun _ => .pointer (some ⟨zv, 3, none⟩)), ([], fun _ => undef)])
                (by kernel_rfl) ⟨by kernel_rfl, ⟨FreeV.d_load _ rfl rfl (fun β bs W hS hd => load_35 ((HV.out.later (hS.bel ((hd 1 7 rfl).2 (.inl (by kernel_rfl))))).var.cell (i := 3) rfl)),
                  FreeV.d_ask2 _ rfl rfl enter_19 (fun β bs W hS hd => (cell_any i k HK2.out.1 HK2.out.2.1 W).mono fun e w' h => ⟨h.1, h.2 ▸ hS⟩),
                  FreeV.d_row1 _ rfl rfl 0 rfl (fun β bs W hS hd => la_row hS ((hd 0 6 rfl).2 (.inr rfl)) 35 3 _ (row35 W _)),
                  FreeV.d_app _ rfl rfl 1 rfl (fun β bs ty W hS hd => la_app hS ((hd 0 6 rfl).1 (by kernel_rfl)) ((hd 1 7 rfl).2 (.inr rfl)) HA1.out),
                  FreeV.d_store _ rfl rfl 2 rfl (fun β bs W hS hd => la_store hS ((hd 1 7 rfl).1 (by kernel_rfl)) ((hd 2 10 rfl).2 (.inr rfl)) HS1.out),
                  trivial⟩,
                  fun β => by kernel_rfl, fun β => by kernel_rfl, by kernel_rfl, fun β => by kernel_rfl, by kernel_rfl⟩ la_start (fun β => Free.from_ 92 [.pointer (some ⟨zv, 1, none⟩), .pointer (some ⟨zv, 3, none⟩), .slice na k nc, .int .i64 (i : Int), .int .i64 (k : Int), .int .i64 (cellI i k), (β 6), (β 7), .pointer (some ⟨zv, 1, none⟩), .pointer (some ⟨zv, 3, none⟩)]) (fun β => by kernel_rfl) ?_
              intro β w8 h8
              rw [Free.puts_from _ _ _ (Nat.le_of_ble_eq_true rfl)]
              simp only [List.take_succ_cons, List.take_zero, List.drop_succ_cons, List.drop_zero, List.cons_append, List.nil_append, List.length_cons, List.length_nil, Nat.reduceAdd]
              obtain ⟨na1, nc1, hV1⟩ := h8.four rfl
              have HV1 := Lib.hid hV1
              clear h8 hV1 HA1 HS1 HV
              go_wp2_with fail
              have HA2 : Hid (∀ W, Below w8.heap.size w8 W → ∀ g, W.rangeAt g 0 [.int .i64 (tword (handI j) (5 + (k : Int)))] → ∀ ty, ∃ v' w', (Builtin.append_ #[35, 35] ty #[.slice la k lc, .slice (some ⟨g, 0, none⟩) 1 1]).run Try.prog W = .ok v' w' ∧ QA w7 zv i (revI n i x) s k (k + 1) na1 nc1 k la lc (cellsL i (k + 1)) (linksL (hts l) i k) (tword (handI j) (5 + (k : Int))) v' w') := Lib.hid fun W hW g hg ty => (HV1.out.later hW).app2 _ g hg HK2.out.2.2.1 ty
              have HS2 : Hid (∀ v' W, QA w7 zv i (revI n i x) s k (k + 1) na1 nc1 k la lc (cellsL i (k + 1)) (linksL (hts l) i k) (tword (handI j) (5 + (k : Int))) v' W → ∃ w', (Instr.storeAt 35 (.pointer (some ⟨zv, 4, none⟩)) v').run Try.prog W = .ok () w' ∧ ∃ la1 lc1, Vst w7 zv (vrowK i (revI n i x) s (k + 1) na1 nc1 (k + 1) la1 lc1) na1 (k + 1) nc1 (cellsL i (k + 1)) la1 (k + 1) lc1 (linksL (hts l) i (k + 1)) w') := Lib.hid fun v' W hP => by
                obtain ⟨a', c', rfl, hV⟩ := hP
                refine ⟨_, st_35 a' (k + 1) c' (hV.var.cell (i := 4) rfl) (hV.var.fz 4), a', c', ?_⟩
                have h1 := hV.put (i := 4) (by simp [vrowK]) (.slice a' (k + 1) c')
                rw [vrowK_set4] at h1
                rw [linksL_succ, hLk.out]
                exact h1
              have htw := fun w => tword_any (handI j) (5 + (k : Int)) w
              have HTw := Lib.hid htw
              clear htw
              refine FreeV.region_puts (S := LA w8 [.int .i64 (tword (handI j) (5 + (k : Int)))] 6 7 (QA w7 zv i (revI n i x) s k (k + 1) na1 nc1 k la lc (cellsL i (k + 1)) (linksL (hts l) i k) (tword (handI j) (5 + (k : Int)))) (fun W => ∃ la1 lc1, Vst w7 zv (vrowK i (revI n i x) s (k + 1) na1 nc1 (k + 1) la1 lc1) na1 (k + 1) nc1 (cellsL i (k + 1)) la1 (k + 1) lc1 (linksL (hts l) i (k + 1)) W)) (effs := [6, 7, 9])
                (tab := [⟨1, fun _ => [.pointer (some ⟨zv, 4, none⟩)], fun _ => .slice la k lc, .read⟩,
                  ⟨4, fun _ => [.int .i64 5, .int .i64 (k : Int)], fun _ => .int .i64 (5 + (k : Int)), .pure⟩,
                  ⟨5, fun _ => [.func (.func 16) #[] #[], .int .i64 (handI j), .int .i64 (5 + (k : Int))], fun _ => .int .i64 (tword (handI j) (5 + (k : Int))), .ask⟩,
                  ⟨6, fun _ => [.int .i64 (tword (handI j) (5 + (k : Int)))], fun β => (β 6), .eff⟩,
                  ⟨7, fun β => [.slice la k lc, (β 6)], fun β => (β 7), .eff⟩,
                  ⟨9, fun β => [.pointer (some ⟨zv, 4, none⟩), (β 7)], fun _ => undef, .put⟩])
                (vs := [([], fun _ => .pointer (some ⟨zv, 4, none⟩)), ([], fun _ => .slice la k lc), ([], fun _ => .int .i64 (handI j)), ([], fun _ => .int .i64 (k : Int)), ([], fun _ => .int .i64 (5 + (k : Int))), ([], fun _ => .int .i64 (tword (handI j) (5 + (k : Int)))), ([6], fun l => (l.headD undef)), ([7], fun l => (l.headD undef)), ([], fun _ => .pointer (some ⟨zv, 4, none⟩)), ([], fun _ => undef)])
                (by kernel_rfl) ⟨by kernel_rfl, ⟨FreeV.d_load _ rfl rfl (fun β bs W hS hd => load_35 ((HV1.out.later (hS.bel ((hd 1 7 rfl).2 (.inl (by kernel_rfl))))).var.cell (i := 4) rfl)),
                  d_binr rfl rfl (fun _ xo W => addc 5 k (by decide) HK2.out.2.2.2 W),
                  FreeV.d_ask2 _ rfl rfl enter_16 (fun β bs W hS hd => (HTw.out W).mono fun e w' h => ⟨h.1, h.2 ▸ hS⟩),
                  FreeV.d_row1 _ rfl rfl 0 rfl (fun β bs W hS hd => la_row hS ((hd 0 6 rfl).2 (.inr rfl)) 35 3 _ (row35 W _)),
                  FreeV.d_app _ rfl rfl 1 rfl (fun β bs ty W hS hd => la_app hS ((hd 0 6 rfl).1 (by kernel_rfl)) ((hd 1 7 rfl).2 (.inr rfl)) HA2.out),
                  FreeV.d_store _ rfl rfl 2 rfl (fun β bs W hS hd => la_store hS ((hd 1 7 rfl).1 (by kernel_rfl)) ((hd 2 9 rfl).2 (.inr rfl)) HS2.out),
                  trivial⟩,
                  fun β => by kernel_rfl, fun β => by kernel_rfl, by kernel_rfl, fun β => by kernel_rfl, by kernel_rfl⟩ la_start (fun β => Free.from_ 102 [.pointer (some ⟨zv, 4, none⟩), .slice la k lc, .int .i64 (handI j), .int .i64 (k : Int), .int .i64 (5 + (k : Int)), .int .i64 (tword (handI j) (5 + (k : Int))), (β 6), (β 7), .pointer (some ⟨zv, 4, none⟩)]) (fun β => by kernel_rfl) ?_
              intro β w9 h9
              rw [Free.puts_from _ _ _ (Nat.le_of_ble_eq_true rfl)]
              simp only [List.take_succ_cons, List.take_zero, List.drop_succ_cons, List.drop_zero, List.cons_append, List.nil_append, List.length_cons, List.length_nil, Nat.reduceAdd]
              obtain ⟨la1, lc1, hV2⟩ := h9.four rfl
              have HV2 := Lib.hid hV2
              clear h9 hV2 HA2 HS2 HV1 HTw
              go_wp2_with fail
              exact ⟨⟨k + 1, na1, nc1, la1, lc1, by simp, by omega, HV2⟩, by simp only [intOf]; omega⟩
          · have hkH2 : ¬ (k : Int) < (H : Int) := by omega
            obtain rfl : k = H := by omega
            have HAp := Lib.hid (row_step l n HN.out hl i hlt x HXx.out k HHi.out hH6 HX.out HB5.out HB6.out HB7.out HV.out)
            have hld := HV.out.var.load (ty := 52) (by simpa [vrowK] using sh52)
            obtain ⟨wb, hwb⟩ : ∃ W, W = wr.alloc (.cells (vrowK i (revI n i x) s k na nc k la lc).toArray 52) := ⟨_, rfl⟩
            rw [← hwb] at HAp
            have HWB := Lib.hid hwb.symm
            unfold vrowK at HWB hld
            clear hwb HV HX HB5 HB6 HB7 HHs HK HG
            go_wp2_with (first | rw [HWB.out] | ((with_reducible refine load_run ?_ (.tmp 10) 52 ?_ ?_ hld ?_); exact rfl; exact rfl; exact rfl) | (at_builtin; refine append_run2 rfl (.tmp 111) (.tmp 113) 25 rfl rfl rfl HAp.out ?_; rintro v' w5' ⟨a', c', rfl, hX2⟩; clear HAp) | fail)
            obtain ⟨vl', hX3⟩ := hX2
            go_roundw
            case rel => exact ⟨i + 1, a', c', vl', by simp, rfl, by omega, Lib.hid hX3⟩
            case measure => simp [intOf]; omega
      · have hln2 : ¬ (i : Int) < (n : Int) - 1 := by omega
        have hlq : ((i : Int) == (n : Int) - 1) = true := by rw [beq_iff_eq]; omega
        have HB2 := Lib.hid hb2
        clear hnm hb2
        obtain ⟨nmi, hnmi⟩ : ∃ m, m = nameB i := ⟨_, rfl⟩
        rw [← hnmi]
        have HNm := Lib.hid hnmi
        clear hnmi
        obtain ⟨w5, hw5⟩ : ∃ W, W = w2.alloc (.cells #[.string nmi, .string ⟨#[]⟩, .bool true] 46) := ⟨_, rfl⟩
        obtain ⟨zs, hzs⟩ : ∃ z, z = w2.heap.size := ⟨_, rfl⟩
        have hs5 : SVar w5 zs [.string (spanI n i).lo, .string (spanI n i).hi, .bool (spanI n i).all] := by
          have e2 : [Value.string (spanI n i).lo, .string (spanI n i).hi, .bool (spanI n i).all] = [.string nmi, .string ⟨#[]⟩, .bool true] := by
            rw [HNm.out]; simp [spanI, hln]; omega
          rw [e2, hw5, hzs]
          exact snew _ _ _
        have hb5 : Below wo.heap.size wo w5 := by
          rw [hw5]
          exact HB2.out.trans ((al_below w2 _).mono HB2.out.size)
        have HW5 := Lib.hid (⟨hw5, hzs⟩ : _ ∧ _)
        clear hw5 hzs
        go_wp2_with fail
        rw [← HW5.out.1, ← HW5.out.2]
        clear HB2 hlq hln2 HNm HW5
        have hz5 : wo.heap.size ≤ w5.heap.size := hb5.size
        have HS5 : Hid (∀ W, Below w5.heap.size w5 W → SVar W zs [.string (spanI n i).lo, .string (spanI n i).hi, .bool (spanI n i).all] ∧ W.rangeAt g (o + i * 6) x.cells) := Lib.hid fun W hW => ⟨hs5.later hW, rangeAt_same HG.out.2 ((hW.block g (Nat.lt_of_lt_of_le HG.out.1 hz5)).trans (hb5.block g HG.out.1))⟩
        have HC9 : Hid ((∀ W, Below w5.heap.size w5 W → Calls Try.prog 31 #[.int .i64 (i : Int), x.v] W fun e w' => ∃ u, e = .returned u ∧ Below W.heap.size W w' ∧ FE (entL i x) u W.heap.size w'.heap.size w') ∧ (∀ W, Below w5.heap.size w5 W → ∀ v, (∃ lo hi, FE (entL i x) v lo hi W) → Calls Try.prog 30 #[.int .i64 (x.ver : Int), .int .i64 (16 * (x.rate : Int)), (spanI n i).v, v] W fun e w' => ∃ u, e = .returned u ∧ Below W.heap.size W w' ∧ FR (revI n i x) u W.heap.size w'.heap.size w')) := by
          refine Lib.hid ⟨fun W _ => (lentries_any i HK.out.2.2.2.2 x HK.out.2.1 W).mono ?_, fun W _ v hv => ?_⟩
          · rintro e w' ⟨v, rfl, ho, hb⟩
            obtain ⟨a', c', e1, hE, -⟩ := OwnE.ents (T := 77) ho
            exact ⟨v, rfl, hb, a', c', e1, hE⟩
          · obtain ⟨_, _, a', c', rfl, hE⟩ := hv
            refine (new_any _ _ (spanI n i) a' (entL i x) c' W (ent_few i x) (ent_short i x) hE).mono ?_
            rintro e w' ⟨R, s, er, rfl, hr, hf, hb, hor⟩
            rcases hor with ⟨-, rfl, rfl⟩ | ⟨e0, -⟩
            · exact ⟨_, rfl, hb, fr_of (R := revI n i x) hr hf⟩
            · rw [ent_right n i x HK.out.1 hl] at e0; cases e0
        have HB5 := Lib.hid (⟨hb5, hz5⟩ : _ ∧ _)
        clear hs5 hb5 hz5
        refine FreeV.region_puts (S := SGL w5 [(19, FE (entL i x)), (20, FR (revI n i x)), (24, FZ Rm.none.zeroRow)] 3 (P9 w5 w5.heap.size (revI n i x))) (effs := [19, 20, 24, 25])
          (tab := [⟨2, fun _ => [.slice (some ⟨g, o, none⟩) n cap, .int .i64 (i : Int)], fun _ => .pointer (some ⟨g, o + i * 6, none⟩), .pure⟩,
            ⟨4, fun _ => [.pointer (some ⟨g, o + i * 6 + 1, none⟩)], fun _ => .int .u8 (x.ver : Int), .read⟩,
            ⟨5, fun _ => [.int .u8 (x.ver : Int)], fun _ => .int .i64 (x.ver : Int), .pure⟩,
            ⟨8, fun _ => [.slice (some ⟨g, o, none⟩) n cap, .int .i64 (i : Int)], fun _ => .pointer (some ⟨g, o + i * 6, none⟩), .pure⟩,
            ⟨10, fun _ => [.pointer (some ⟨g, o + i * 6 + 2, none⟩)], fun _ => .int .u8 (x.rate : Int), .read⟩,
            ⟨11, fun _ => [.int .u8 (x.rate : Int)], fun _ => .int .i64 (x.rate : Int), .pure⟩,
            ⟨12, fun _ => [.int .i64 16, .int .i64 (x.rate : Int)], fun _ => .int .i64 (16 * (x.rate : Int)), .pure⟩,
            ⟨13, fun _ => [.pointer (some ⟨zs, 0, none⟩)], fun _ => (spanI n i).v, .read⟩,
            ⟨17, fun _ => [.slice (some ⟨g, o, none⟩) n cap, .int .i64 (i : Int)], fun _ => .pointer (some ⟨g, o + i * 6, none⟩), .pure⟩,
            ⟨18, fun _ => [.pointer (some ⟨g, o + i * 6, none⟩)], fun _ => x.v, .read⟩,
            ⟨19, fun _ => [.func (.func 31) #[] #[], .int .i64 (i : Int), x.v], fun β => (β 19), .get⟩,
            ⟨20, fun β => [.func (.func 30) #[] #[], .int .i64 (x.ver : Int), .int .i64 (16 * (x.rate : Int)), (spanI n i).v, (β 19)], fun β => (β 20), .get⟩,
            ⟨22, fun β => [(β 20)], fun β => (nth 0 (β 20)), .read⟩,
            ⟨23, fun β => [(β 20)], fun _ => .int .i64 0, .read⟩,
            ⟨24, fun _ => [], fun β => (β 24), .eff⟩,
            ⟨25, fun β => [(β 24), (nth 0 (β 20))], fun _ => undef, .put⟩])
          (vs := [([], fun _ => .slice (some ⟨g, o, none⟩) n cap), ([], fun _ => .int .i64 (i : Int)), ([], fun _ => .pointer (some ⟨g, o + i * 6, none⟩)), ([], fun _ => .pointer (some ⟨g, o + i * 6 + 1, none⟩)), ([], fun _ => .int .u8 (x.ver : Int)), ([], fun _ => .int .i64 (x.ver : Int)), ([], fun _ => .slice (some ⟨g, o, none⟩) n cap), ([], fun _ => .int .i64 (i : Int)), ([], fun _ => .pointer (some ⟨g, o + i * 6, none⟩)), ([], fun _ => .pointer (some ⟨g, o + i * 6 + 2, none⟩)), ([], fun _ => .int .u8 (x.rate : Int)), ([], fun _ => .int .i64 (x.rate : Int)), ([], fun _ => .int .i64 (16 * (x.rate : Int))), ([], fun _ => (spanI n i).v), ([], fun _ => .int .i64 (i : Int)), ([], fun _ => .slice (some ⟨g, o, none⟩) n cap), ([], fun _ => .int .i64 (i : Int)), ([], fun _ => .pointer (some ⟨g, o + i * 6, none⟩)), ([], fun _ => x.v), ([19], fun l => (l.headD undef)), ([20], fun l => (l.headD undef)), ([20], fun l => (l.headD undef)), ([20], fun l => (nth 0 (l.headD undef))), ([], fun _ => .int .i64 0), ([24], fun l => (l.headD undef)), ([], fun _ => undef), ([], fun _ => .int .i64 0)])
          (by kernel_rfl) ⟨by kernel_rfl, ⟨FreeV.d_at _ rfl rfl (fun _ W => at_22 g o n cap i HK.out.1 W),
            FreeV.d_load _ rfl rfl (fun β bs W hS hd => load_5 ((HS5.out W (hS.bel ((hd 3 25 rfl).2 (.inl (by kernel_rfl))))).2 1 _ rfl)),
            d_conv rfl rfl (fun _ W => conv53 HK.out.2.2.1 W),
            FreeV.d_at _ rfl rfl (fun _ W => at_22 g o n cap i HK.out.1 W),
            FreeV.d_load _ rfl rfl (fun β bs W hS hd => load_5 ((HS5.out W (hS.bel ((hd 3 25 rfl).2 (.inl (by kernel_rfl))))).2 2 _ rfl)),
            d_conv rfl rfl (fun _ W => conv53 HK.out.2.2.2.1 W),
            d_binr rfl rfl (fun _ xo W => mul16 HK.out.2.2.2.1 W),
            FreeV.d_load _ rfl rfl (fun β bs W hS hd => (HS5.out W (hS.bel ((hd 3 25 rfl).2 (.inl (by kernel_rfl))))).1.load sh46),
            FreeV.d_at _ rfl rfl (fun _ W => at_22 g o n cap i HK.out.1 W),
            FreeV.d_load _ rfl rfl (fun β bs W hS hd => load_mid (HS5.out W (hS.bel ((hd 3 25 rfl).2 (.inl (by kernel_rfl))))).2 sh66),
            FreeV.d_get2 _ rfl rfl enter_31 0 rfl (fun β bs W hS hd => hS.call ((hd 3 25 rfl).2 (.inl (by kernel_rfl))) (by decide) rfl (HC9.out.1 W (hS.bel ((hd 3 25 rfl).2 (.inl (by kernel_rfl)))))),
            FreeV.d_get4 _ rfl rfl enter_30 1 rfl (fun β bs W hS hd => hS.call ((hd 3 25 rfl).2 (.inl (by kernel_rfl))) (by decide) rfl (HC9.out.2 W (hS.bel ((hd 3 25 rfl).2 (.inl (by kernel_rfl)))) _ (hS.get ((hd 3 25 rfl).2 (.inl (by kernel_rfl))) rfl ((hd 0 19 rfl).1 (by kernel_rfl))))),
            FreeV.d_extract _ rfl rfl (fun β bs W hS hd => by obtain ⟨_, _, s, e, -⟩ := hS.get ((hd 3 25 rfl).2 (.inl (by kernel_rfl))) rfl ((hd 1 20 rfl).1 (by kernel_rfl)); rw [e]; exact ex2_0 _ _ _),
            FreeV.d_extract _ rfl rfl (fun β bs W hS hd => by obtain ⟨s, e⟩ := p9_tuple hS ((hd 1 20 rfl).1 (by kernel_rfl)); rw [e]; exact ex2_1 _ _ _),
            FreeV.d_alloc _ rfl rfl 2 rfl (fun β bs W hS hd => ⟨_, _, alloc_50 W, hS.step ((hd 3 25 rfl).2 (.inl (by kernel_rfl))) (by decide) rfl (al_below _ _) (fz_new W _ _)⟩),
            FreeV.d_store _ rfl rfl 3 rfl (fun β bs W hS hd => p9_last hS ((hd 3 25 rfl).2 (.inr rfl)) ((hd 1 20 rfl).1 (by kernel_rfl)) ((hd 2 24 rfl).1 (by kernel_rfl))),
            trivial⟩,
            fun β => by kernel_rfl, fun β => by kernel_rfl, by kernel_rfl, fun β => by kernel_rfl, by kernel_rfl⟩ (SGL.start 4 (by decide) (st3 (fe_st _) (fr_st _) (fz_st _)) (by simp)) (fun β => Free.from_ 40 [.slice (some ⟨g, o, none⟩) n cap, .int .i64 (i : Int), .pointer (some ⟨g, o + i * 6, none⟩), .pointer (some ⟨g, o + i * 6 + 1, none⟩), .int .u8 (x.ver : Int), .int .i64 (x.ver : Int), .slice (some ⟨g, o, none⟩) n cap, .int .i64 (i : Int), .pointer (some ⟨g, o + i * 6, none⟩), .pointer (some ⟨g, o + i * 6 + 2, none⟩), .int .u8 (x.rate : Int), .int .i64 (x.rate : Int), .int .i64 (16 * (x.rate : Int)), (spanI n i).v, .int .i64 (i : Int), .slice (some ⟨g, o, none⟩) n cap, .int .i64 (i : Int), .pointer (some ⟨g, o + i * 6, none⟩), x.v, (β 19), (β 20)] ++ [(39, (β 20)), (61, (nth 0 (β 20))), (62, .int .i64 0), (8, (β 24)), (9, .int .i64 0)]) (fun β => by kernel_rfl) ?_
        intro β w6 h6
        rw [FreeX.puts_append, Free.puts_from _ _ _ (Nat.le_of_ble_eq_true rfl)]
        simp only [List.take_succ_cons, List.take_zero, List.drop_succ_cons, List.drop_zero, List.cons_append, List.nil_append, List.length_cons, List.length_nil, Nat.reduceAdd]
        unfold Free.puts
        simp only [List.foldl_cons, List.foldl_nil]
        obtain ⟨zr, s, e24, e20, hzr, hb6, sv6, rv6, fr6⟩ := h6.fin rfl
        rw [e24, e20]
        have HS6 : Hid (∀ W, Below w6.heap.size w6 W → SVar W zr ((revI n i x).row s)) := Lib.hid fun W hW => sv6.later hW
        have HB6 := Lib.hid (⟨hb6, rv6, fr6⟩ : _ ∧ _ ∧ _)
        clear h6 e24 e20 hzr hb6 sv6 rv6 fr6 HS5 HC9
        simp only [nth_0]
        go_wp2_with fail
        refine FreeV.region_puts (S := SGL w6 [(11, FZ v0row)] 1 (P12 w6 w6.heap.size ((vw0 i (revI n i x)).row (vq0 s)))) (effs := [11, 12])
          (tab := [⟨1, fun _ => [.func (.func 13) #[] #[], .int .i64 (i : Int)], fun _ => .int .i64 (handI i), .ask⟩,
            ⟨3, fun _ => [.func (.func 29) #[] #[], .int .i64 (i : Int)], fun _ => .string (nameB i), .ask⟩,
            ⟨5, fun _ => [.int .i64 900, .int .i64 (i : Int)], fun _ => .int .i64 (900 + (i : Int)), .pure⟩,
            ⟨6, fun _ => [.string (nameB i), .int .i64 (900 + (i : Int))], fun _ => .agg #[.string (nameB i), .int .i64 (900 + (i : Int)), .slice none 0 0], .pure⟩,
            ⟨8, fun _ => [.int .i64 800, .int .i64 (i : Int)], fun _ => .int .i64 (800 + (i : Int)), .pure⟩,
            ⟨9, fun _ => [.pointer (some ⟨zr, 0, none⟩)], fun _ => ((revI n i x).v s), .read⟩,
            ⟨10, fun _ => [.int .i64 (handI i), .agg #[.string (nameB i), .int .i64 (900 + (i : Int)), .slice none 0 0], .int .i64 (800 + (i : Int)), ((revI n i x).v s)], fun _ => ((vw0 i (revI n i x)).v (vq0 s)), .read⟩,
            ⟨11, fun _ => [], fun β => (β 11), .eff⟩,
            ⟨12, fun β => [(β 11), ((vw0 i (revI n i x)).v (vq0 s))], fun _ => undef, .put⟩])
          (vs := [([], fun _ => .int .i64 (i : Int)), ([], fun _ => .int .i64 (handI i)), ([], fun _ => .int .i64 (i : Int)), ([], fun _ => .string (nameB i)), ([], fun _ => .int .i64 (i : Int)), ([], fun _ => .int .i64 (900 + (i : Int))), ([], fun _ => .agg #[.string (nameB i), .int .i64 (900 + (i : Int)), .slice none 0 0]), ([], fun _ => .int .i64 (i : Int)), ([], fun _ => .int .i64 (800 + (i : Int))), ([], fun _ => ((revI n i x).v s)), ([], fun _ => ((vw0 i (revI n i x)).v (vq0 s))), ([11], fun l => (l.headD undef)), ([], fun _ => undef)])
          (by kernel_rfl) ⟨by kernel_rfl, ⟨FreeV.d_ask1 _ rfl rfl enter_13 (fun β bs W hS hd => (lhandle_any i W).mono fun e w' h => ⟨h.1, h.2 ▸ hS⟩),
            FreeV.d_ask1 _ rfl rfl enter_29 (fun β bs W hS hd => (name_any i HK.out.2.2.2.2 W).mono fun e w' h => ⟨h.1, hS.later ((hd 1 12 rfl).2 (.inl (by kernel_rfl))) h.2⟩),
            d_binr rfl rfl (fun _ xo W => addc 900 i (by decide) (by have := HK.out.2.2.2.2; omega) W),
            FreeV.d_build2 _ rfl rfl (fun _ W => build_44 _ _ W),
            d_binr rfl rfl (fun _ xo W => addc 800 i (by decide) (by have := HK.out.2.2.2.2; omega) W),
            FreeV.d_load _ rfl rfl (fun β bs W hS hd => (HS6.out W (hS.bel ((hd 1 12 rfl).2 (.inl (by kernel_rfl))))).load sh50),
            d_build4 rfl rfl (fun β bs W hS hd => build_52 i _ s W),
            FreeV.d_alloc _ rfl rfl 0 rfl (fun β bs W hS hd => ⟨_, _, alloc_52 W, hS.step ((hd 1 12 rfl).2 (.inl (by kernel_rfl))) (by decide) rfl (al_below _ _) (fz_new W _ _)⟩),
            FreeV.d_store _ rfl rfl 1 rfl (fun β bs W hS hd => p12_last hS ((hd 1 12 rfl).2 (.inr rfl)) ((hd 0 11 rfl).1 (by kernel_rfl)) rfl rfl (Vw.row_one _ _)),
            trivial⟩,
            fun β => by kernel_rfl, fun β => by kernel_rfl, by kernel_rfl, fun β => by kernel_rfl, by kernel_rfl⟩ (SGL.start 2 (by decide) (st1 (fz_st _)) (by simp)) (fun β => Free.from_ 65 [.int .i64 (i : Int), .int .i64 (handI i), .int .i64 (i : Int), .string (nameB i), .int .i64 (i : Int), .int .i64 (900 + (i : Int)), .agg #[.string (nameB i), .int .i64 (900 + (i : Int)), .slice none 0 0], .int .i64 (i : Int), .int .i64 (800 + (i : Int)), ((revI n i x).v s), ((vw0 i (revI n i x)).v (vq0 s))] ++ [(10, (β 11))]) (fun β => by kernel_rfl) ?_
        intro β w7 h7
        rw [FreeX.puts_append, Free.puts_from _ _ _ (Nat.le_of_ble_eq_true rfl)]
        simp only [List.take_succ_cons, List.take_zero, List.drop_succ_cons, List.drop_zero, List.cons_append, List.nil_append, List.length_cons, List.length_nil, Nat.reduceAdd]
        unfold Free.puts
        simp only [List.foldl_cons, List.foldl_nil]
        obtain ⟨zv, e11, hzv, hzl, hb7, sv7⟩ := h7.fin rfl
        rw [e11]
        have hv7 : Vst w7 zv (vrowK i (revI n i x) s 0 none 0 0 none 0) none 0 0 (cellsL i 0) none 0 0 (linksL (hts l) i 0) w7 := ⟨But.refl _ _, sv7, hzl, World.ownsRow_nil _ _ _ _, World.ownsRow_nil _ _ _ _, fun g e => (by cases e)⟩
        have HB7 := Lib.hid (⟨hb7, hzv⟩ : _ ∧ _)
        have HV7 := Lib.hid hv7
        clear h7 e11 hzv hzl hb7 sv7 hv7 HS6
        go_wp2_with fail
        have hgw : w7.rangeAt gh oh (ints (nz (hts l))) := by
          have h2 : gh < wo.heap.size := Nat.lt_of_lt_of_le HH.out.1 HX.out.1.size
          have h3 := HB5.out.2
          have h4 := HB6.out.1.size
          exact rangeAt_same HH.out.2 ((HB7.out.1.block gh (by omega)).trans ((HB6.out.1.block gh (by omega)).trans ((HB5.out.1.block gh h2).trans (HX.out.1.block gh HH.out.1))))
        have hgz : gh ≠ zv := by
          have := HH.out.1
          have := HX.out.1.size
          have h3 := HB5.out.2
          have h4 := HB6.out.1.size
          have := HB7.out.2
          omega
        have hgl7 : gh < w7.heap.size := by
          have := HH.out.1
          have := HX.out.1.size
          have h3 := HB5.out.2
          have h4 := HB6.out.1.size
          have := HB7.out.1.size
          omega
        have HHs := Lib.hid (⟨hgw, hgz, hgl7⟩ : _ ∧ _ ∧ _)
        clear hgw hgz hgl7
        go_loopw [11] (fun kv W => ∃ (k : Nat) (na : Option Addr) (nc : Nat) (la : Option Addr) (lc : Nat), kv = .int .i64 (k : Int) ∧ k ≤ H ∧ Hid (Vst w7 zv (vrowK i (revI n i x) s k na nc k la lc) na k nc (cellsL i k) la k lc (linksL (hts l) i k) W)) (fun kv _ => H - (intOf kv).toNat)
        case atStart => exact ⟨0, none, 0, none, 0, rfl, Nat.zero_le _, HV7⟩
        case round =>
          obtain ⟨k, na, nc, la, lc, rfl, hk, HV⟩ := hrel
          have hrg : wr.rangeAt gh oh (ints (nz (hts l))) := rangeAt_same HHs.out.1 (HV.out.but.block gh HHs.out.2.2 HHs.out.2.1)
          have ch : wr.cell? ⟨gh, oh + i, none⟩ = some (.int .i64 (H : Int)) := hrg i _ (ints_get (nz_get HHi.out))
          have hrt := refTo_any wr (some ⟨gh, oh, none⟩) hc (hts l) (by rw [hts_length, ← HN.out]; omega) (.inr ⟨gh, oh, rfl, Nat.lt_of_lt_of_le HHs.out.2.2 HV.out.but.size, hrg⟩) i (by omega) (k : Int)
          rw [hts_length, ← HN.out] at hrt
          clear hrg
          by_cases hkH : k < H
          · have hkH2 : (k : Int) < (H : Int) := by omega
            have hk6 : (k : Int) < 6 := by omega
            have HK2 : Hid (i ≤ 1000000 ∧ k ≤ 1000000 ∧ k + 1 ≤ 1000000 ∧ 5 + (k : Int) < 1000000) := by refine Lib.hid ⟨by omega, by omega, by omega, by omega⟩
            obtain ⟨F, hF⟩ : ∃ F, F = firstH (hts l) (k : Int) (i + 1) := ⟨_, rfl⟩
            have HF := Lib.hid hF
            rw [← hF] at hrt
            clear hF
            go_wp2_with fail
            refine hrt.mono ?_
            rintro e w2 ⟨rfl, rfl⟩
            clear hrt ch
            cases F with
            | none =>
              have hLk : Hid (linkI (hts l) i k = tword 0 (5 + (k : Int))) := Lib.hid (by unfold linkI; rw [← HF.out]; rfl)
              clear HF
              have ef : ofO none = -1 := rfl
              rw [ef]
              clear ef
              go_wp2_with fail
              have HA1 : Hid (∀ W, Below wr.heap.size wr W → ∀ g, W.rangeAt g 0 [.int .i64 (cellI i k)] → ∀ ty, ∃ v' w', (Builtin.append_ #[35, 35] ty #[.slice na k nc, .slice (some ⟨g, 0, none⟩) 1 1]).run Try.prog W = .ok v' w' ∧ PA w7 zv i (revI n i x) s k k na nc k la lc (cellsL i k) (linksL (hts l) i k) (cellI i k) v' w') := Lib.hid fun W hW g hg ty => (HV.out.later hW).app1 (cellI i k) g hg HK2.out.2.2.1 ty
              have HS1 : Hid (∀ v' W, PA w7 zv i (revI n i x) s k k na nc k la lc (cellsL i k) (linksL (hts l) i k) (cellI i k) v' W → ∃ w', (Instr.storeAt 35 (.pointer (some ⟨zv, 3, none⟩)) v').run Try.prog W = .ok () w' ∧ PB w7 zv i (revI n i x) s k (cellsL i (k + 1)) la k lc (linksL (hts l) i k) w') := Lib.hid fun v' W hP => by
                obtain ⟨a', c', rfl, hV⟩ := hP
                refine ⟨_, st_35 a' (k + 1) c' (hV.var.cell (i := 3) rfl) (hV.var.fz 3), a', c', ?_⟩
                have h1 := hV.put (i := 3) (by simp [vrowK]) (.slice a' (k + 1) c')
                rw [vrowK_set3] at h1
                rw [cellsL_succ]
                exact h1
              refine FreeV.region_puts (S := LA wr [.int .i64 (cellI i k)] 6 7 (PA w7 zv i (revI n i x) s k k na nc k la lc (cellsL i k) (linksL (hts l) i k) (cellI i k)) (PB w7 zv i (revI n i x) s k (cellsL i (k + 1)) la k lc (linksL (hts l) i k))) (effs := [6, 7, 10])
                (tab := [⟨2, fun _ => [.pointer (some ⟨zv, 3, none⟩)], fun _ => .slice na k nc, .read⟩,
                  ⟨5, fun _ => [.func (.func 19) #[] #[], .int .i64 (i : Int), .int .i64 (k : Int)], fun _ => .int .i64 (cellI i k), .ask⟩,
                  ⟨6, fun _ => [.int .i64 (cellI i k)], fun β => (β 6), .eff⟩,
                  ⟨7, fun β => [.slice na k nc, (β 6)], fun β => (β 7), .eff⟩,
                  ⟨10, fun β => [.pointer (some ⟨zv, 3, none⟩), (β 7)], fun _ => undef, .put⟩])
                (vs := [([], fun _ => .pointer (some ⟨zv, 1, none⟩)), ([], fun _ => .pointer (some ⟨zv, 3, none⟩)), ([], fun _ => .slice na k nc), ([], fun _ => .int .i64 (i : Int)), ([], fun _ => .int .i64 (k : Int)), ([], fun _ => .int .i64 (cellI i k)), ([6], fun l => (l.headD undef)), ([7], fun l => (l.headD undef)), ([], fun _ => .pointer (some ⟨zv, 1, none⟩)), ([], fun _ => .pointer (some ⟨zv, 3, none⟩)), ([], fun _ => undef)])
                (by kernel_rfl) ⟨by kernel_rfl, ⟨FreeV.d_load _ rfl rfl (fun β bs W hS hd => load_35 ((HV.out.later (hS.bel ((hd 1 7 rfl).2 (.inl (by kernel_rfl))))).var.cell (i := 3) rfl)),
                  FreeV.d_ask2 _ rfl rfl enter_19 (fun β bs W hS hd => (cell_any i k HK2.out.1 HK2.out.2.1 W).mono fun e w' h => ⟨h.1, h.2 ▸ hS⟩),
                  FreeV.d_row1 _ rfl rfl 0 rfl (fun β bs W hS hd => la_row hS ((hd 0 6 rfl).2 (.inr rfl)) 35 3 _ (row35 W _)),
                  FreeV.d_app _ rfl rfl 1 rfl (fun β bs ty W hS hd => la_app hS ((hd 0 6 rfl).1 (by kernel_rfl)) ((hd 1 7 rfl).2 (.inr rfl)) HA1.out),
                  FreeV.d_store _ rfl rfl 2 rfl (fun β bs W hS hd => la_store hS ((hd 1 7 rfl).1 (by kernel_rfl)) ((hd 2 10 rfl).2 (.inr rfl)) HS1.out),
                  trivial⟩,
                  fun β => by kernel_rfl, fun β => by kernel_rfl, by kernel_rfl, fun β => by kernel_rfl, by kernel_rfl⟩ la_start (fun β => Free.from_ 92 [.pointer (some ⟨zv, 1, none⟩), .pointer (some ⟨zv, 3, none⟩), .slice na k nc, .int .i64 (i : Int), .int .i64 (k : Int), .int .i64 (cellI i k), (β 6), (β 7), .pointer (some ⟨zv, 1, none⟩), .pointer (some ⟨zv, 3, none⟩)]) (fun β => by kernel_rfl) ?_
              intro β w8 h8
              rw [Free.puts_from _ _ _ (Nat.le_of_ble_eq_true rfl)]
              simp only [List.take_succ_cons, List.take_zero, List.drop_succ_cons, List.drop_zero, List.cons_append, List.nil_append, List.length_cons, List.length_nil, Nat.reduceAdd]
              obtain ⟨na1, nc1, hV1⟩ := h8.four rfl
              have HV1 := Lib.hid hV1
              clear h8 hV1 HA1 HS1 HV
              go_wp2_with fail
              have HA2 : Hid (∀ W, Below w8.heap.size w8 W → ∀ g, W.rangeAt g 0 [.int .i64 (tword 0 (5 + (k : Int)))] → ∀ ty, ∃ v' w', (Builtin.append_ #[35, 35] ty #[.slice la k lc, .slice (some ⟨g, 0, none⟩) 1 1]).run Try.prog W = .ok v' w' ∧ QA w7 zv i (revI n i x) s k (k + 1) na1 nc1 k la lc (cellsL i (k + 1)) (linksL (hts l) i k) (tword 0 (5 + (k : Int))) v' w') := Lib.hid fun W hW g hg ty => (HV1.out.later hW).app2 _ g hg HK2.out.2.2.1 ty
              have HS2 : Hid (∀ v' W, QA w7 zv i (revI n i x) s k (k + 1) na1 nc1 k la lc (cellsL i (k + 1)) (linksL (hts l) i k) (tword 0 (5 + (k : Int))) v' W → ∃ w', (Instr.storeAt 35 (.pointer (some ⟨zv, 4, none⟩)) v').run Try.prog W = .ok () w' ∧ ∃ la1 lc1, Vst w7 zv (vrowK i (revI n i x) s (k + 1) na1 nc1 (k + 1) la1 lc1) na1 (k + 1) nc1 (cellsL i (k + 1)) la1 (k + 1) lc1 (linksL (hts l) i (k + 1)) w') := Lib.hid fun v' W hP => by
                obtain ⟨a', c', rfl, hV⟩ := hP
                refine ⟨_, st_35 a' (k + 1) c' (hV.var.cell (i := 4) rfl) (hV.var.fz 4), a', c', ?_⟩
                have h1 := hV.put (i := 4) (by simp [vrowK]) (.slice a' (k + 1) c')
                rw [vrowK_set4] at h1
                rw [linksL_succ, hLk.out]
                exact h1
              have htw := fun w => tword_any 0 (5 + (k : Int)) w
              have HTw := Lib.hid htw
              clear htw
              refine FreeV.region_puts (S := LA w8 [.int .i64 (tword 0 (5 + (k : Int)))] 6 7 (QA w7 zv i (revI n i x) s k (k + 1) na1 nc1 k la lc (cellsL i (k + 1)) (linksL (hts l) i k) (tword 0 (5 + (k : Int)))) (fun W => ∃ la1 lc1, Vst w7 zv (vrowK i (revI n i x) s (k + 1) na1 nc1 (k + 1) la1 lc1) na1 (k + 1) nc1 (cellsL i (k + 1)) la1 (k + 1) lc1 (linksL (hts l) i (k + 1)) W)) (effs := [6, 7, 9])
                (tab := [⟨1, fun _ => [.pointer (some ⟨zv, 4, none⟩)], fun _ => .slice la k lc, .read⟩,
                  ⟨4, fun _ => [.int .i64 5, .int .i64 (k : Int)], fun _ => .int .i64 (5 + (k : Int)), .pure⟩,
                  ⟨5, fun _ => [.func (.func 16) #[] #[], .int .i64 0, .int .i64 (5 + (k : Int))], fun _ => .int .i64 (tword 0 (5 + (k : Int))), .ask⟩,
                  ⟨6, fun _ => [.int .i64 (tword 0 (5 + (k : Int)))], fun β => (β 6), .eff⟩,
                  ⟨7, fun β => [.slice la k lc, (β 6)], fun β => (β 7), .eff⟩,
                  ⟨9, fun β => [.pointer (some ⟨zv, 4, none⟩), (β 7)], fun _ => undef, .put⟩])
                (vs := [([], fun _ => .pointer (some ⟨zv, 4, none⟩)), ([], fun _ => .slice la k lc), ([], fun _ => .int .i64 0), ([], fun _ => .int .i64 (k : Int)), ([], fun _ => .int .i64 (5 + (k : Int))), ([], fun _ => .int .i64 (tword 0 (5 + (k : Int)))), ([6], fun l => (l.headD undef)), ([7], fun l => (l.headD undef)), ([], fun _ => .pointer (some ⟨zv, 4, none⟩)), ([], fun _ => undef)])
                (by kernel_rfl) ⟨by kernel_rfl, ⟨FreeV.d_load _ rfl rfl (fun β bs W hS hd => load_35 ((HV1.out.later (hS.bel ((hd 1 7 rfl).2 (.inl (by kernel_rfl))))).var.cell (i := 4) rfl)),
                  d_binr rfl rfl (fun _ xo W => addc 5 k (by decide) HK2.out.2.2.2 W),
                  FreeV.d_ask2 _ rfl rfl enter_16 (fun β bs W hS hd => (HTw.out W).mono fun e w' h => ⟨h.1, h.2 ▸ hS⟩),
                  FreeV.d_row1 _ rfl rfl 0 rfl (fun β bs W hS hd => la_row hS ((hd 0 6 rfl).2 (.inr rfl)) 35 3 _ (row35 W _)),
                  FreeV.d_app _ rfl rfl 1 rfl (fun β bs ty W hS hd => la_app hS ((hd 0 6 rfl).1 (by kernel_rfl)) ((hd 1 7 rfl).2 (.inr rfl)) HA2.out),
                  FreeV.d_store _ rfl rfl 2 rfl (fun β bs W hS hd => la_store hS ((hd 1 7 rfl).1 (by kernel_rfl)) ((hd 2 9 rfl).2 (.inr rfl)) HS2.out),
                  trivial⟩,
                  fun β => by kernel_rfl, fun β => by kernel_rfl, by kernel_rfl, fun β => by kernel_rfl, by kernel_rfl⟩ la_start (fun β => Free.from_ 102 [.pointer (some ⟨zv, 4, none⟩), .slice la k lc, .int .i64 0, .int .i64 (k : Int), .int .i64 (5 + (k : Int)), .int .i64 (tword 0 (5 + (k : Int))), (β 6), (β 7), .pointer (some ⟨zv, 4, none⟩)]) (fun β => by kernel_rfl) ?_
              intro β w9 h9
              rw [Free.puts_from _ _ _ (Nat.le_of_ble_eq_true rfl)]
              simp only [List.take_succ_cons, List.take_zero, List.drop_succ_cons, List.drop_zero, List.cons_append, List.nil_append, List.length_cons, List.length_nil, Nat.reduceAdd]
              obtain ⟨la1, lc1, hV2⟩ := h9.four rfl
              have HV2 := Lib.hid hV2
              clear h9 hV2 HA2 HS2 HV1 HTw
              go_wp2_with fail
              exact ⟨⟨k + 1, na1, nc1, la1, lc1, by simp, by omega, HV2⟩, by simp only [intOf]; omega⟩
            | some j =>
              have hj20 : j < n := by
                have := firstH_some HF.out.symm
                rw [hts_length, ← HN.out] at this
                exact this.2
              have hlh := fun w => lhandle_any j w
              have hLk : Hid (linkI (hts l) i k = tword (handI j) (5 + (k : Int))) := Lib.hid (by unfold linkI; rw [← HF.out]; rfl)
              clear HF
              have ef : ofO (some j) = (j : Int) := rfl
              have hj0 : (0 : Int) ≤ (j : Int) := by omega
              rw [ef]
              clear ef
              go_wp2_with fail
              refine (hlh _).mono ?_
              rintro e w2 ⟨rfl, rfl⟩
              clear hlh
              go_wp2_with fail
              have HA1 : Hid (∀ W, Below wr.heap.size wr W → ∀ g, W.rangeAt g 0 [.int .i64 (cellI i k)] → ∀ ty, ∃ v' w', (Builtin.append_ #[35, 35] ty #[.slice na k nc, .slice (some ⟨g, 0, none⟩) 1 1]).run Try.prog W = .ok v' w' ∧ PA w7 zv i (revI n i x) s k k na nc k la lc (cellsL i k) (linksL (hts l) i k) (cellI i k) v' w') := Lib.hid fun W hW g hg ty => (HV.out.later hW).app1 (cellI i k) g hg HK2.out.2.2.1 ty
              have HS1 : Hid (∀ v' W, PA w7 zv i (revI n i x) s k k na nc k la lc (cellsL i k) (linksL (hts l) i k) (cellI i k) v' W → ∃ w', (Instr.storeAt 35 (.pointer (some ⟨zv, 3, none⟩)) v').run Try.prog W = .ok () w' ∧ PB w7 zv i (revI n i x) s k (cellsL i (k + 1)) la k lc (linksL (hts l) i k) w') := Lib.hid fun v' W hP => by
                obtain ⟨a', c', rfl, hV⟩ := hP
                refine ⟨_, st_35 a' (k + 1) c' (hV.var.cell (i := 3) rfl) (hV.var.fz 3), a', c', ?_⟩
                have h1 := hV.put (i := 3) (by simp [vrowK]) (.slice a' (k + 1) c')
                rw [vrowK_set3] at h1
                rw [cellsL_succ]
                exact h1
              refine FreeV.region_puts (S := LA wr [.int .i64 (cellI i k)] 6 7 (PA w7 zv i (revI n i x) s k k na nc k la lc (cellsL i k) (linksL (hts l) i k) (cellI i k)) (PB w7 zv i (revI n i x) s k (cellsL i (k + 1)) la k lc (linksL (hts l) i k))) (effs := [6, 7, 10])
                (tab := [⟨2, fun _ => [.pointer (some ⟨zv, 3, none⟩)], fun _ => .slice na k nc, .read⟩,
                  ⟨5, fun _ => [.func (.func 19) #[] #[], .int .i64 (i : Int), .int .i64 (k : Int)], fun _ => .int .i64 (cellI i k), .ask⟩,
                  ⟨6, fun _ => [.int .i64 (cellI i k)], fun β => (β 6), .eff⟩,
                  ⟨7, fun β => [.slice na k nc, (β 6)], fun β => (β 7), .eff⟩,
                  ⟨10, fun β => [.pointer (some ⟨zv, 3, none⟩), (β 7)], fun _ => undef, .put⟩])
                (vs := [([], fun _ => .pointer (some ⟨zv, 1, none⟩)), ([], fun _ => .pointer (some ⟨zv, 3, none⟩)), ([], fun _ => .slice na k nc), ([], fun _ => .int .i64 (i : Int)), ([], fun _ => .int .i64 (k : Int)), ([], fun _ => .int .i64 (cellI i k)), ([6], fun l => (l.headD undef)), ([7], fun l => (l.headD undef)), ([], fun _ => .pointer (some ⟨zv, 1, none⟩)), ([], fun _ => .pointer (some ⟨zv, 3, none⟩)), ([], fun _ => undef)])
                (by kernel_rfl) ⟨by kernel_rfl, ⟨FreeV.d_load _ rfl rfl (fun β bs W hS hd => load_35 ((HV.out.later (hS.bel ((hd 1 7 rfl).2 (.inl (by kernel_rfl))))).var.cell (i := 3) rfl)),
                  FreeV.d_ask2 _ rfl rfl enter_19 (fun β bs W hS hd => (cell_any i k HK2.out.1 HK2.out.2.1 W).mono fun e w' h => ⟨h.1, h.2 ▸ hS⟩),
                  FreeV.d_row1 _ rfl rfl 0 rfl (fun β bs W hS hd => la_row hS ((hd 0 6 rfl).2 (.inr rfl)) 35 3 _ (row35 W _)),
                  FreeV.d_app _ rfl rfl 1 rfl (fun β bs ty W hS hd => la_app hS ((hd 0 6 rfl).1 (by kernel_rfl)) ((hd 1 7 rfl).2 (.inr rfl)) HA1.out),
                  FreeV.d_store _ rfl rfl 2 rfl (fun β bs W hS hd => la_store hS ((hd 1 7 rfl).1 (by kernel_rfl)) ((hd 2 10 rfl).2 (.inr rfl)) HS1.out),
                  trivial⟩,
                  fun β => by kernel_rfl, fun β => by kernel_rfl, by kernel_rfl, fun β => by kernel_rfl, by kernel_rfl⟩ la_start (fun β => Free.from_ 92 [.pointer (some ⟨zv, 1, none⟩), .pointer (some ⟨zv, 3, none⟩), .slice na k nc, .int .i64 (i : Int), .int .i64 (k : Int), .int .i64 (cellI i k), (β 6), (β 7), .pointer (some ⟨zv, 1, none⟩), .pointer (some ⟨zv, 3, none⟩)]) (fun β => by kernel_rfl) ?_
              intro β w8 h8
              rw [Free.puts_from _ _ _ (Nat.le_of_ble_eq_true rfl)]
              simp only [List.take_succ_cons, List.take_zero, List.drop_succ_cons, List.drop_zero, List.cons_append, List.nil_append, List.length_cons, List.length_nil, Nat.reduceAdd]
              obtain ⟨na1, nc1, hV1⟩ := h8.four rfl
              have HV1 := Lib.hid hV1
              clear h8 hV1 HA1 HS1 HV
              go_wp2_with fail
              have HA2 : Hid (∀ W, Below w8.heap.size w8 W → ∀ g, W.rangeAt g 0 [.int .i64 (tword (handI j) (5 + (k : Int)))] → ∀ ty, ∃ v' w', (Builtin.append_ #[35, 35] ty #[.slice la k lc, .slice (some ⟨g, 0, none⟩) 1 1]).run Try.prog W = .ok v' w' ∧ QA w7 zv i (revI n i x) s k (k + 1) na1 nc1 k la lc (cellsL i (k + 1)) (linksL (hts l) i k) (tword (handI j) (5 + (k : Int))) v' w') := Lib.hid fun W hW g hg ty => (HV1.out.later hW).app2 _ g hg HK2.out.2.2.1 ty
              have HS2 : Hid (∀ v' W, QA w7 zv i (revI n i x) s k (k + 1) na1 nc1 k la lc (cellsL i (k + 1)) (linksL (hts l) i k) (tword (handI j) (5 + (k : Int))) v' W → ∃ w', (Instr.storeAt 35 (.pointer (some ⟨zv, 4, none⟩)) v').run Try.prog W = .ok () w' ∧ ∃ la1 lc1, Vst w7 zv (vrowK i (revI n i x) s (k + 1) na1 nc1 (k + 1) la1 lc1) na1 (k + 1) nc1 (cellsL i (k + 1)) la1 (k + 1) lc1 (linksL (hts l) i (k + 1)) w') := Lib.hid fun v' W hP => by
                obtain ⟨a', c', rfl, hV⟩ := hP
                refine ⟨_, st_35 a' (k + 1) c' (hV.var.cell (i := 4) rfl) (hV.var.fz 4), a', c', ?_⟩
                have h1 := hV.put (i := 4) (by simp [vrowK]) (.slice a' (k + 1) c')
                rw [vrowK_set4] at h1
                rw [linksL_succ, hLk.out]
                exact h1
              have htw := fun w => tword_any (handI j) (5 + (k : Int)) w
              have HTw := Lib.hid htw
              clear htw
              refine FreeV.region_puts (S := LA w8 [.int .i64 (tword (handI j) (5 + (k : Int)))] 6 7 (QA w7 zv i (revI n i x) s k (k + 1) na1 nc1 k la lc (cellsL i (k + 1)) (linksL (hts l) i k) (tword (handI j) (5 + (k : Int)))) (fun W => ∃ la1 lc1, Vst w7 zv (vrowK i (revI n i x) s (k + 1) na1 nc1 (k + 1) la1 lc1) na1 (k + 1) nc1 (cellsL i (k + 1)) la1 (k + 1) lc1 (linksL (hts l) i (k + 1)) W)) (effs := [6, 7, 9])
                (tab := [⟨1, fun _ => [.pointer (some ⟨zv, 4, none⟩)], fun _ => .slice la k lc, .read⟩,
                  ⟨4, fun _ => [.int .i64 5, .int .i64 (k : Int)], fun _ => .int .i64 (5 + (k : Int)), .pure⟩,
                  ⟨5, fun _ => [.func (.func 16) #[] #[], .int .i64 (handI j), .int .i64 (5 + (k : Int))], fun _ => .int .i64 (tword (handI j) (5 + (k : Int))), .ask⟩,
                  ⟨6, fun _ => [.int .i64 (tword (handI j) (5 + (k : Int)))], fun β => (β 6), .eff⟩,
                  ⟨7, fun β => [.slice la k lc, (β 6)], fun β => (β 7), .eff⟩,
                  ⟨9, fun β => [.pointer (some ⟨zv, 4, none⟩), (β 7)], fun _ => undef, .put⟩])
                (vs := [([], fun _ => .pointer (some ⟨zv, 4, none⟩)), ([], fun _ => .slice la k lc), ([], fun _ => .int .i64 (handI j)), ([], fun _ => .int .i64 (k : Int)), ([], fun _ => .int .i64 (5 + (k : Int))), ([], fun _ => .int .i64 (tword (handI j) (5 + (k : Int)))), ([6], fun l => (l.headD undef)), ([7], fun l => (l.headD undef)), ([], fun _ => .pointer (some ⟨zv, 4, none⟩)), ([], fun _ => undef)])
                (by kernel_rfl) ⟨by kernel_rfl, ⟨FreeV.d_load _ rfl rfl (fun β bs W hS hd => load_35 ((HV1.out.later (hS.bel ((hd 1 7 rfl).2 (.inl (by kernel_rfl))))).var.cell (i := 4) rfl)),
                  d_binr rfl rfl (fun _ xo W => addc 5 k (by decide) HK2.out.2.2.2 W),
                  FreeV.d_ask2 _ rfl rfl enter_16 (fun β bs W hS hd => (HTw.out W).mono fun e w' h => ⟨h.1, h.2 ▸ hS⟩),
                  FreeV.d_row1 _ rfl rfl 0 rfl (fun β bs W hS hd => la_row hS ((hd 0 6 rfl).2 (.inr rfl)) 35 3 _ (row35 W _)),
                  FreeV.d_app _ rfl rfl 1 rfl (fun β bs ty W hS hd => la_app hS ((hd 0 6 rfl).1 (by kernel_rfl)) ((hd 1 7 rfl).2 (.inr rfl)) HA2.out),
                  FreeV.d_store _ rfl rfl 2 rfl (fun β bs W hS hd => la_store hS ((hd 1 7 rfl).1 (by kernel_rfl)) ((hd 2 9 rfl).2 (.inr rfl)) HS2.out),
                  trivial⟩,
                  fun β => by kernel_rfl, fun β => by kernel_rfl, by kernel_rfl, fun β => by kernel_rfl, by kernel_rfl⟩ la_start (fun β => Free.from_ 102 [.pointer (some ⟨zv, 4, none⟩), .slice la k lc, .int .i64 (handI j), .int .i64 (k : Int), .int .i64 (5 + (k : Int)), .int .i64 (tword (handI j) (5 + (k : Int))), (β 6), (β 7), .pointer (some ⟨zv, 4, none⟩)]) (fun β => by kernel_rfl) ?_
              intro β w9 h9
              rw [Free.puts_from _ _ _ (Nat.le_of_ble_eq_true rfl)]
              simp only [List.take_succ_cons, List.take_zero, List.drop_succ_cons, List.drop_zero, List.cons_append, List.nil_append, List.length_cons, List.length_nil, Nat.reduceAdd]
              obtain ⟨la1, lc1, hV2⟩ := h9.four rfl
              have HV2 := Lib.hid hV2
              clear h9 hV2 HA2 HS2 HV1 HTw
              go_wp2_with fail
              exact ⟨⟨k + 1, na1, nc1, la1, lc1, by simp, by omega, HV2⟩, by simp only [intOf]; omega⟩
          · have hkH2 : ¬ (k : Int) < (H : Int) := by omega
            obtain rfl : k = H := by omega
            have HAp := Lib.hid (row_step l n HN.out hl i hlt x HXx.out k HHi.out hH6 HX.out HB5.out HB6.out HB7.out HV.out)
            have hld := HV.out.var.load (ty := 52) (by simpa [vrowK] using sh52)
            obtain ⟨wb, hwb⟩ : ∃ W, W = wr.alloc (.cells (vrowK i (revI n i x) s k na nc k la lc).toArray 52) := ⟨_, rfl⟩
            rw [← hwb] at HAp
            have HWB := Lib.hid hwb.symm
            unfold vrowK at HWB hld
            clear hwb HV HX HB5 HB6 HB7 HHs HK HG
            go_wp2_with (first | rw [HWB.out] | ((with_reducible refine load_run ?_ (.tmp 10) 52 ?_ ?_ hld ?_); exact rfl; exact rfl; exact rfl) | (at_builtin; refine append_run2 rfl (.tmp 111) (.tmp 113) 25 rfl rfl rfl HAp.out ?_; rintro v' w5' ⟨a', c', rfl, hX2⟩; clear HAp) | fail)
            obtain ⟨vl', hX3⟩ := hX2
            go_roundw
            case rel => exact ⟨i + 1, a', c', vl', by simp, rfl, by omega, Lib.hid hX3⟩
            case measure => simp [intOf]; omega
    · have hlt2 : ¬ (i : Int) < (n : Int) := by omega
      obtain rfl : i = n := by omega
      have hX := HX.out
      have hb0 := HB1.out.trans (hX.1.mono HB1.out.size)
      obtain ⟨a1, q1, e1, hq1, hr1⟩ := own_row hX.2.1
      cases e1
      have hVR : VRow wo oa vl := ⟨hr1, fun x hx => (hX.2.2.1 x hx).1, by rw [hX.2.2.2.1]; omega⟩
      have hrv := rightV_any wo oa oc vl hVR (by rw [hX.2.2.2.1]; exact hq1)
      rw [hX.2.2.2.1] at hrv
      have hP := right_views l i HN.out h0 hl hX.2.2.2
      have HE := Lib.hid (⟨hX.2.2.2, hVR, hq1, hb0, hP⟩ : _ ∧ _ ∧ _ ∧ _ ∧ _)
      clear hX hb0 hr1 hq1 hVR hP HX
      go_wp2_with fail
      refine hrv.mono ?_
      rintro e w2 ⟨⟨r, rfl, hr⟩, hb⟩
      obtain rfl : r = true := hr.2 HE.out.2.2.2.2
      have HE2 : Hid (VRow w2 oa vl ∧ Below w.heap.size w w2) := Lib.hid ⟨HE.out.2.1.later hb, HE.out.2.2.2.1.trans (hb.mono HE.out.2.2.2.1.size)⟩
      clear hrv hb hr
      go_wp2_with fail
      go_ret2
      exact ⟨oa, oc, vl, rfl, HE.out.1, HE2.out.1, HE.out.2.2.1, HE2.out.2⟩
end Go.Proofs.Ytjlifkhpohfiaaa
